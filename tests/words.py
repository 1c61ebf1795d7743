"""What the document's points say, word for word and slowly: a second way to what the program tells."""

import itertools
import re


def kind_below(kinds, one, other):
    """Point [3]: by going up from ups to ups."""
    return one == other or any(kind_below(kinds, up, other) for up in kinds.ups(one))


def lows(kinds, one, other):
    """Point [4]: all kinds that are a low of both."""
    both = [kind for kind in kinds.names() if kind_below(kinds, kind, one) and kind_below(kinds, kind, other)]
    return [kind for kind in both if all(kind_below(kinds, each, kind) for each in both)]


def highs(kinds, one, other):
    both = [kind for kind in kinds.names() if kind_below(kinds, one, kind) and kind_below(kinds, other, kind)]
    return [kind for kind in both if all(kind_below(kinds, kind, each) for each in both)]


def first_fork(kinds, ups):
    """Point [4]: the first fork of a new kind, or None."""
    above = [kind for kind in kinds.names() if any(kind_below(kinds, up, kind) for up in ups)]
    forks = [(one, other) for one in above for other in above for low in lows(kinds, one, other) if low not in above]
    return min(forks, default=None)


def rooms_of_new(kinds, ups, rooms):
    """Point [5]: a dict of what a new kind lets, or the refusal's name and what it is about."""
    above = [kind for kind in kinds.names() if any(kind_below(kinds, up, kind) for up in ups)]
    known = {room for kind in kinds.names() for room, let in kinds.rooms(kind)}
    told = {}
    for room, kind in rooms:
        lets = [dict(kinds.rooms(up))[room] for up in ups if room in dict(kinds.rooms(up))]
        if not re.fullmatch("[a-z]{1,8}", room):
            return "BadName", room
        if kind not in kinds.names():
            return "NoKind", kind
        if room in told:
            return "Twice", room
        if room in known and kinds.home(room) not in above:
            return "Strange", room
        if not all(kind_below(kinds, kind, let) for let in lets):
            return "Wider", room
        told[room] = kind
    for room in sorted(known):
        lets = [dict(kinds.rooms(up))[room] for up in ups if room in dict(kinds.rooms(up))]
        if lets and room not in told:
            under = [kind for kind in kinds.names() if all(kind_below(kinds, kind, let) for let in lets)]
            lowest = [kind for kind in under if all(kind_below(kinds, each, kind) for each in under)]
            if not lowest:
                return "NoFit", room
            told[room] = lowest[0]
    return told


def rings(kinds, musts):
    """Point [6]: the kinds with musts that are led on to themselves, in one step or in several."""
    steps = {(one, other) for one, box in musts.items() for other in musts for kind, pairs in box.nodes()[1:]
             if lows(kinds, other, kind)}
    for count in musts:
        steps |= {(one, last) for one, other in steps for again, last in steps if again == other}
    return sorted(one for one, other in steps if one == other)


def musts_of(kinds):
    return {kind: kinds.must_of(kind) for kind in kinds.names() if kinds.must_of(kind) is not None}


def needed(kinds, name):
    """Point [7]: whether something needs a kind."""
    musts = musts_of(kinds)
    return (name == "any" or any(name in kinds.ups(kind) for kind in kinds.names())
            or any(let == name for kind in kinds.names() if kind != name for room, let in kinds.rooms(kind))
            or name in musts or any(kind == name for box in musts.values() for kind, pairs in box.nodes()))


def fits(kinds, box):
    """Point [8]: each kind stands there, and each room is let and leads to what is let there."""
    nodes = box.nodes()
    for kind, pairs in nodes:
        if kind not in kinds.names():
            return False
        lets = dict(kinds.rooms(kind))
        if not all(room in lets and kind_below(kinds, nodes[there][0], lets[room]) for room, there in pairs):
            return False
    return True


def is_walk(kinds, lower, higher, numbers):
    """Point [9]: whether these numbers of the lower nodes, by the higher ones, are a walk."""
    for (kind, pairs), at in zip(higher, numbers):
        there = dict(lower[at][1])
        if not kind_below(kinds, lower[at][0], kind):
            return False
        if not all(room in there and there[room] == numbers[number] for room, number in pairs):
            return False
    return numbers[0] == 0


def walks(kinds, low, high):
    """Point [9]: all walks there are, found by trying each choice; for boxes of few nodes."""
    choices = itertools.product(range(len(low)), repeat=len(high) - 1)
    return [[0, *rest] for rest in choices if is_walk(kinds, low.nodes(), high.nodes(), [0, *rest])]


def ways(box):
    """A path to each node."""
    nodes = box.nodes()
    found = {0: []}
    waiting = [0]
    while waiting:
        at = waiting.pop()
        for room, there in nodes[at][1]:
            if there not in found:
                found[there] = found[at] + [room]
                waiting.append(there)
    return list(found.values())


def at_rest(kinds, box, below):
    """Point [9]: each node, as the box behind it, lies below each must of a kind above; by a told way to below."""
    for path in ways(box):
        behind = box.behind(path)
        for kind in kinds.names():
            must = kinds.must_of(kind)
            if must is not None and kind_below(kinds, behind.kind(), kind) and not below(kinds, behind, must):
                return False
    return True
