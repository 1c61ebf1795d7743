"""Webs of things that still grow together."""

from traitmere.boxes import Box
from traitmere.rows import numbered


class Web:
    """Things, numbered as they come, each with a kind and with doors: rooms, and the things to which they lead.

    Things that have become one follow one another to their head, and what is known of them all stands there. Where
    two kinds that have no low come together, the web is broken, and nothing that it tells is good any more. What
    follows from a change is brought about by `settle`, and waits until then: first what rooms let, then musts, so
    that as much as can be is one already where a must comes.
    """

    def __init__(self, table):
        self.table = table
        self.heads = []
        self.labels = []
        self.doors = []
        self.turned = []
        self.calmed = []
        self.broken = False

    def bring(self, kind):
        """A new thing's number."""
        thing = len(self.heads)
        self.heads.append(thing)
        self.labels.append(kind)
        self.doors.append({})
        self.turned.append(thing)
        return thing

    def head(self, thing):
        """The thing that stands for all that are one with this one."""
        while self.heads[thing] != thing:
            self.heads[thing] = self.heads[self.heads[thing]]
            thing = self.heads[thing]
        return thing

    def narrow(self, thing, kind):
        """A thing is of this kind, too."""
        at = self.head(thing)
        low = self.table.low(self.labels[at], kind)
        if low is None:
            self.broken = True
        elif low != self.labels[at]:
            self.labels[at] = low
            self.turned.append(at)

    def fuse(self, one, other):
        """Two things are one, and so is what their rooms lead to."""
        waiting = [(one, other)]
        while waiting:
            first, second = waiting.pop()
            at = self.head(first)
            gone = self.head(second)
            if at != gone:
                self.heads[gone] = at
                self.turned.append(at)
                self.narrow(at, self.labels[gone])
                doors = hand_over(self.doors[gone], self.doors[at])
                waiting.extend([(mine, theirs) for room, mine, theirs in doors])

    def enter(self, thing, room, kind):
        """What stands in a thing's room; where nothing does, a new thing of this kind comes in."""
        at = self.head(thing)
        if room not in self.doors[at]:
            self.doors[at][room] = self.bring(kind)
            self.turned.append(at)
        return self.doors[at][room]

    def lead(self, thing, room, other):
        """A thing's room leads to another thing, which is one with what stands there already."""
        at = self.head(thing)
        if room in self.doors[at]:
            self.fuse(self.doors[at][room], other)
        else:
            self.doors[at][room] = other
            self.turned.append(at)

    def lay(self, thing, box):
        """All that the box tells of its root holds for a thing, too."""
        held = {0: thing}
        # Each node of a box is met first by a room of a node ahead of it, so what stands for it is known at its turn.
        for number, (kind, pairs) in enumerate(box.rows):
            self.narrow(held[number], kind)
            if self.broken:
                return
            for room, there in pairs:
                if there in held:
                    self.lead(held[number], room, held[there])
                else:
                    held[there] = self.enter(held[number], room, box.rows[there][0])

    def settle(self):
        """Bring about all that follows; tells whether it can be."""
        while not self.broken and (self.turned or self.calmed):
            if self.turned:
                at = self.head(self.turned.pop())
                self.heed_lets(at)
                self.calmed.append(at)
            else:
                self.heed_musts(self.head(self.calmed.pop()))
        return not self.broken

    def heed_lets(self, at):
        """What stands in a thing's rooms is of what its kind lets there."""
        for room, there in self.doors[at].items():
            self.narrow(there, self.table.let_in(self.labels[at], room))

    def heed_musts(self, at):
        """A thing has what the musts of the kinds above its own ask for; where it has it already, nothing is turned."""
        for must in self.table.musts_over(self.labels[at]):
            self.lay(at, must)

    def kind_of(self, thing):
        """The kind of which a thing is now."""
        return self.labels[self.head(thing)]

    def inside(self, thing, room):
        """What stands in a thing's room, or None."""
        return self.doors[self.head(thing)].get(room)

    def told(self, thing):
        """The box of all that is behind a thing."""
        rows = {}
        waiting = [self.head(thing)]
        while waiting:
            at = waiting.pop()
            if at not in rows:
                pairs = [(room, self.head(there)) for room, there in self.doors[at].items()]
                rows[at] = (self.labels[at], pairs)
                waiting.extend([there for room, there in pairs])
        return Box(numbered(rows, self.head(thing)))

    def twin(self):
        """A web for itself with all that is in this one."""
        new = Web(self.table)
        new.heads = list(self.heads)
        new.labels = list(self.labels)
        new.doors = [dict(doors) for doors in self.doors]
        new.turned = list(self.turned)
        new.calmed = list(self.calmed)
        new.broken = self.broken
        return new


def hand_over(old, new):
    """Give the doors of one thing to another one; told are the rooms that both have, with what the new and the old
    doors lead to."""
    both = []
    for room in old:
        if room in new:
            both.append((room, new[room], old[room]))
        else:
            new[room] = old[room]
    return both
