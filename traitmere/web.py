"""Webs of things that still grow together."""

from traitmere.boxes import Box
from traitmere.rows import numbered


class Web:
    """Things, numbered as they come, each with a kind and with doors: rooms, and the things to which they lead.

    Things that have become one follow one another to their head, and what is known of them all stands there. Where
    two kinds that have no low come together, the web is broken, and nothing that it tells is good any more. What
    follows from a change is brought about by `settle`, and waits until then: first what rooms let, then musts, so
    that as much as can be is one already where a must comes.
    """

    def __init__(self, table):
        self.table = table
        self.heads = []
        self.labels = []
        self.doors = []
        self.turned = []
        self.calmed = []
        self.broken = False

    def bring(self, kind):
        """A new thing's number."""
        thing = len(self.heads)
        self.heads.append(thing)
        self.labels.append(kind)
        self.doors.append({})
        self.turned.append(thing)
        return thing

    def head(self, thing):
        """The thing that stands for all that are one with this one."""
        while self.heads[thing] != thing:
            self.heads[thing] = self.heads[self.heads[thing]]
            thing = self.heads[thing]
        return thing

    def narrow(self, thing, kind):
        """A thing is of this kind, too."""
        at = self.head(thing)
        low = self.table.low(self.labels[at], kind)
        if low is None:
            self.broken = True
        elif low != self.labels[at]:
            self.labels[at] = low
            self.turned.append(at)

    def fuse(self, one, other):
        """Two things are one, and so is what their rooms lead to."""
        waiting = [(one, other)]
        while waiting:
            first, second = waiting.pop()
            at = self.head(first)
            gone = self.head(second)
            if at != gone:
                self.heads[gone] = at
                self.turned.append(at)
                self.narrow(at, self.labels[gone])
                waiting.extend(self.hand_over(gone, at))

    def hand_over(self, gone, at):
        """Give a thing's doors to another one; told are pairs of what stands behind doors that both have."""
        old = self.doors[gone]
        new = self.doors[at]
        pairs = []
        for room in old:
            if room in new:
                pairs.append((new[room], old[room]))
            else:
                new[room] = old[room]
        return pairs

    def enter(self, thing, room, kind):
        """What stands in a thing's room; where nothing does, a new thing of this kind comes in."""
        at = self.head(thing)
        if room not in self.doors[at]:
            self.doors[at][room] = self.bring(kind)
            self.turned.append(at)
        return self.doors[at][room]

    def lead(self, thing, room, other):
        """A thing's room leads to another thing, which is one with what stands there already."""
        at = self.head(thing)
        if room in self.doors[at]:
            self.fuse(self.doors[at][room], other)
        else:
            self.doors[at][room] = other
            self.turned.append(at)

    def lay(self, thing, box):
        """All that the box tells of its root holds for a thing, too."""
        held = {0: thing}
        # Each node of a box is met first by a room of a node ahead of it, so what stands for it is known at its turn.
        for number, (kind, pairs) in enumerate(box.rows):
            self.narrow(held[number], kind)
            for room, there in pairs:
                if there in held:
                    self.lead(held[number], room, held[there])
                else:
                    held[there] = self.enter(held[number], room, box.rows[there][0])

    def settle(self):
        """Bring about all that follows; tells whether it can be."""
        while not self.broken and (self.turned or self.calmed):
            if self.turned:
                at = self.head(self.turned.pop())
                self.heed_lets(at)
                self.calmed.append(at)
            else:
                self.heed_musts(self.head(self.calmed.pop()))
        return not self.broken

    def heed_lets(self, at):
        """What stands in a thing's rooms is of what its kind lets there."""
        for room, there in self.doors[at].items():
            self.narrow(there, self.table.let_in(self.labels[at], room))

    def heed_musts(self, at):
        """A thing has what the musts of the kinds above its own ask for; where it has it already, nothing is turned."""
        for must in self.table.musts_over(self.labels[at]):
            self.lay(at, must)

    def told(self, thing):
        """The box of all that is behind a thing."""
        rows = []
        for label, doors in zip(self.labels, self.doors):
            rows.append((label, [(room, self.head(there)) for room, there in doors.items()]))
        return Box(numbered(rows, self.head(thing)))
