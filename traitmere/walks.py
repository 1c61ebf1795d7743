"""Walks: which boxes lie below which, the box over two, and boxes at rest."""

from traitmere.boxes import Box
from traitmere.rows import numbered


def walk(kinds, low, high):
    """For each node of the higher box the number of the node of the lower one that stands for it, or None."""
    return walk_from(kinds, low.rows, 0, high.rows)


def walk_from(kinds, low, start, high):
    """The walk of the higher rows from a node of the lower rows, or None."""
    held = {0: start}
    # Each node of a box is met first by a room of a node ahead of it, so what stands for it is known at its turn.
    for number, (kind, pairs) in enumerate(high):
        own, doors = low[held[number]]
        if not kinds.is_below(own, kind) or not leads_alike(held, dict(pairs), dict(doors)):
            return None
    return [held[number] for number in range(len(high))]


def leads_alike(held, rooms, doors):
    """Whether all the rooms are doors too, and lead to what stands for theirs, as held, which grows here."""
    for room in rooms:
        if room not in doors:
            return False
        if held.setdefault(rooms[room], doors[room]) != doors[room]:
            return False
    return True


def below(kinds, low, high):
    """Whether the lower box lies below the higher one."""
    return walk(kinds, low, high) is not None


def over(kinds, one, other):
    """The least box above both: its nodes are the pairs of nodes to which the same rooms lead from the roots."""
    numbers = {(0, 0): 0}
    met = [(0, 0)]
    rows = []
    while len(rows) < len(met):
        first, second = met[len(rows)]
        kind = kinds.high(one.rows[first][0], other.rows[second][0])
        pairs = []
        for room, pair in both_rooms(one.rows[first][1], other.rows[second][1]):
            if pair not in numbers:
                numbers[pair] = len(met)
                met.append(pair)
            pairs.append((room, numbers[pair]))
        rows.append((kind, pairs))
    return Box(numbered(rows, 0))


def both_rooms(one, other):
    """Pairs (room, pair of numbers) of the rooms that two nodes have both."""
    others = dict(other)
    return [(room, (number, others[room])) for room, number in one if room in others]


def at_rest(kinds, box):
    """Whether each node lies below the must of each kind above its own that has one."""
    for number, (name, pairs) in enumerate(box.rows):
        for must in kinds.musts_over(name):
            if walk_from(kinds, box.rows, number, must.rows) is None:
                return False
    return True
