"""Boxes: webs of nodes with a root."""

from traitmere.errors import BadNodes, NoKind, NoRoom, Twice, Unfit
from traitmere.rows import numbered, text_of

MOST_NODES = 40


class Box:
    """Numbered rows of nodes that never change, so that they may be shared by all who have them."""

    def __init__(self, rows):
        self.rows = rows

    def kind(self):
        """The root's kind."""
        return self.rows[0][0]

    def nodes(self):
        """A list of pairs (kind, list of pairs (room, number)), the root first."""
        return [(kind, list(pairs)) for kind, pairs in self.rows]

    def behind(self, path):
        """The box of all that is behind a row of rooms."""
        at = 0
        for room in path:
            there = dict(self.rows[at][1])
            if room not in there:
                raise NoRoom(room)
            at = there[room]
        return Box(numbered(self.rows, at))

    def __len__(self):
        return len(self.rows)

    def __eq__(self, other):
        return isinstance(other, Box) and self.rows == other.rows

    def __str__(self):
        return str(text_of(self.rows))

    def __repr__(self):
        return f"Box({len(self.rows)}: {self.rows[0][0]})"


def built(kinds, nodes):
    """The box of such nodes as a Box tells, in whatever order they come behind the root."""
    many = len(nodes)
    if many < 1 or many > MOST_NODES:
        raise BadNodes(many)
    names = kinds.names()
    for kind, pairs in nodes:
        if kind not in names:
            raise NoKind(kind)
        check_pairs(kinds, kind, pairs, many)
    rows = [(kind, [(room, number) for room, number in pairs]) for kind, pairs in nodes]
    if not rooms_fit(kinds, rows):
        raise Unfit()
    return Box(numbered(rows, 0))


def check_pairs(kinds, kind, pairs, many):
    """Refuse a node's first pair that is wrong by itself, among so many nodes."""
    met = {}
    for room, number in pairs:
        if kinds.let_in(kind, room) is None:
            raise NoRoom(room)
        if room in met:
            raise Twice(room)
        if number < 0 or number >= many:
            raise BadNodes(number)
        met[room] = True


def fits(kinds, box):
    """Whether the box fits the table, of whatever table it was made."""
    names = kinds.names()
    if not all([kind in names for kind, pairs in box.rows]):
        return False
    return rooms_fit(kinds, box.rows)


def rooms_fit(kinds, rows):
    """Whether each room of nodes, all of kinds that there are, is let and leads to what is let there."""
    for kind, pairs in rows:
        for room, number in pairs:
            let = kinds.let_in(kind, room)
            if let is None or not kinds.is_below(rows[number][0], let):
                return False
    return True
