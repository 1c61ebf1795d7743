"""What the document's points say, word for word and slowly: a second way to what the program tells."""

import itertools
import re

from traitmere.boxes import Box
from traitmere.joins import join
from traitmere.rows import numbered


def kind_below(kinds, one, other):
    """Point [3]: by going up from ups to ups."""
    return one == other or any(kind_below(kinds, up, other) for up in kinds.ups(one))


def lows(kinds, one, other):
    """Point [4]: all kinds that are a low of both."""
    both = [kind for kind in kinds.names() if kind_below(kinds, kind, one) and kind_below(kinds, kind, other)]
    return [kind for kind in both if all(kind_below(kinds, each, kind) for each in both)]


def highs(kinds, one, other):
    both = [kind for kind in kinds.names() if kind_below(kinds, one, kind) and kind_below(kinds, other, kind)]
    return [kind for kind in both if all(kind_below(kinds, kind, each) for each in both)]


def first_fork(kinds, ups):
    """Point [4]: the first fork of a new kind, or None."""
    above = [kind for kind in kinds.names() if any(kind_below(kinds, up, kind) for up in ups)]
    forks = [(one, other) for one in above for other in above for low in lows(kinds, one, other) if low not in above]
    return min(forks, default=None)


def rooms_of_new(kinds, ups, rooms):
    """Point [5]: a dict of what a new kind lets, or the refusal's name and what it is about."""
    above = [kind for kind in kinds.names() if any(kind_below(kinds, up, kind) for up in ups)]
    known = {room for kind in kinds.names() for room, let in kinds.rooms(kind)}
    told = {}
    for room, kind in rooms:
        lets = [dict(kinds.rooms(up))[room] for up in ups if room in dict(kinds.rooms(up))]
        if not re.fullmatch("[a-z]{1,8}", room):
            return "BadName", room
        if kind not in kinds.names():
            return "NoKind", kind
        if room in told:
            return "Twice", room
        if room in known and kinds.home(room) not in above:
            return "Strange", room
        if not all(kind_below(kinds, kind, let) for let in lets):
            return "Wider", room
        told[room] = kind
    for room in sorted(known):
        lets = [dict(kinds.rooms(up))[room] for up in ups if room in dict(kinds.rooms(up))]
        if lets and room not in told:
            under = [kind for kind in kinds.names() if all(kind_below(kinds, kind, let) for let in lets)]
            lowest = [kind for kind in under if all(kind_below(kinds, each, kind) for each in under)]
            if not lowest:
                return "NoFit", room
            told[room] = lowest[0]
    return told


def rings(kinds, musts):
    """Point [6]: the kinds with musts that are led on to themselves, in one step or in several."""
    steps = {(one, other) for one, box in musts.items() for other in musts for kind, pairs in box.nodes()[1:]
             if lows(kinds, other, kind)}
    for count in musts:
        steps |= {(one, last) for one, other in steps for again, last in steps if again == other}
    return sorted(one for one, other in steps if one == other)


def musts_of(kinds):
    return {kind: kinds.must_of(kind) for kind in kinds.names() if kinds.must_of(kind) is not None}


def needed(kinds, name):
    """Point [7]: whether something needs a kind."""
    musts = musts_of(kinds)
    return (name == "any" or any(name in kinds.ups(kind) for kind in kinds.names())
            or any(let == name for kind in kinds.names() if kind != name for room, let in kinds.rooms(kind))
            or name in musts or any(kind == name for box in musts.values() for kind, pairs in box.nodes()))


def fits(kinds, box):
    """Point [8]: each kind stands there, and each room is let and leads to what is let there."""
    nodes = box.nodes()
    for kind, pairs in nodes:
        if kind not in kinds.names():
            return False
        lets = dict(kinds.rooms(kind))
        if not all(room in lets and kind_below(kinds, nodes[there][0], lets[room]) for room, there in pairs):
            return False
    return True


def is_walk(kinds, lower, higher, numbers):
    """Point [9]: whether these numbers of the lower nodes, by the higher ones, are a walk."""
    for (kind, pairs), at in zip(higher, numbers):
        there = dict(lower[at][1])
        if not kind_below(kinds, lower[at][0], kind):
            return False
        if not all(room in there and there[room] == numbers[number] for room, number in pairs):
            return False
    return numbers[0] == 0


def walks(kinds, low, high):
    """Point [9]: all walks there are, found by trying each choice; for boxes of few nodes."""
    choices = itertools.product(range(len(low)), repeat=len(high) - 1)
    return [[0, *rest] for rest in choices if is_walk(kinds, low.nodes(), high.nodes(), [0, *rest])]


def ways(box):
    """A path to each node."""
    nodes = box.nodes()
    found = {0: []}
    waiting = [0]
    while waiting:
        at = waiting.pop()
        for room, there in nodes[at][1]:
            if there not in found:
                found[there] = found[at] + [room]
                waiting.append(there)
    return list(found.values())


def at_rest(kinds, box, below):
    """Point [9]: each node, as the box behind it, lies below each must of a kind above; by a told way to below."""
    for path in ways(box):
        behind = box.behind(path)
        for kind in kinds.names():
            must = kinds.must_of(kind)
            if must is not None and kind_below(kinds, behind.kind(), kind) and not below(kinds, behind, must):
                return False
    return True


def is_paper(kinds, one, other, rows):
    """Point [13]: whether rows are a paper; what is wrong in a row comes out as some error of Python's."""
    facts = []
    try:
        for row in rows:
            assert isinstance(row, tuple) and not (facts and facts[-1] == "end")
            facts.append(fact_of(kinds, one, other, rows, facts, row))
    except (AssertionError, TypeError, ValueError, LookupError, AttributeError):
        return False
    named = {number for row in rows for number in rows_named(row)}
    plain = [row for row in rows if row[0] != "must"]
    return (bool(facts) and facts[-1] == "end" and named == set(range(len(rows) - 1))
            and all(plain.count(row) == 1 for row in plain))


def rows_named(row):
    if row[0] == "own":
        return [row[1][1]] if row[1][0] == "must" else []
    return [given for given in row[1:] if isinstance(given, int)]


def node_of(kinds, one, other, rows, facts, name):
    """The kind and the rooms of a named node, each room with the name of what is there."""
    assert isinstance(name, tuple)
    word, *ahead, number = name
    if word == "must":
        (row,) = ahead
        assert number_below(row, len(facts)) and rows[row][0] == "must"
        box = kinds.must_of(rows[row][2])
    else:
        assert ahead == []
        box = {"one": one, "other": other}[word]
    assert number_below(number, len(box))
    kind, pairs = box.nodes()[number]
    return kind, {room: (word, *ahead, there) for room, there in pairs}


def number_below(number, most):
    return isinstance(number, int) and number in range(most)


def fact_of(kinds, one, other, rows, facts, row):
    """What a row tells: ("same", a, b), ("kind", a, kind) or "end"."""
    def fact(number, word):
        assert number_below(number, len(facts)) and facts[number][0] == word
        return facts[number][1:]

    def rooms(node):
        return node_of(kinds, one, other, rows, facts, node)[1]

    word, *given = row
    if word == "roots":
        () = given
        return "same", ("one", 0), ("other", 0)
    if word == "step":
        row, room = given
        first, second = fact(row, "same")
        return "same", rooms(first)[room], rooms(second)[room]
    if word == "turn":
        (row,) = given
        return ("same", *reversed(fact(row, "same")))
    if word == "own":
        (node,) = given
        return "kind", node, node_of(kinds, one, other, rows, facts, node)[0]
    first, second = given
    if word == "chain":
        (a, b), (again, c) = fact(first, "same"), fact(second, "same")
        assert b == again
        return "same", a, c
    if word == "too":
        (a, b), (again, kind) = fact(first, "same"), fact(second, "kind")
        assert a == again
        return "kind", b, kind
    if word == "let":
        node, kind = fact(first, "kind")
        return "kind", rooms(node)[second], dict(kinds.rooms(kind))[second]
    if word == "must":
        node, kind = fact(first, "kind")
        assert kind_below(kinds, kind, second) and kinds.must_of(second) is not None
        return "same", node, ("must", len(facts), 0)
    assert word in ("meet", "none")
    (node, kind), (again, other_kind) = fact(first, "kind"), fact(second, "kind")
    found = lows(kinds, kind, other_kind)
    assert node == again and len(found) == (1 if word == "meet" else 0)
    return ("kind", node, found[0]) if found else "end"


def put_together(kinds, root, parts):
    """A box of a root of this kind with boxes, as copies, in its rooms; parts are pairs of a room and a box."""
    rows = [(root, [])]
    for room, box in parts:
        first = len(rows)
        rows[0][1].append((room, first))
        rows += [(kind, [(inner, there + first) for inner, there in pairs]) for kind, pairs in box.nodes()]
    return Box(numbered(rows, 0))


def made(kinds, rule, readings):
    """Point [17]: what a rule, a pair of its box and parts, makes of readings, or None; by joins."""
    box, parts = rule
    inner = [(part, join(kinds, box.behind([part]), reading)) for part, reading in zip(parts, readings)]
    if any(each is None for part, each in inner):
        return None
    told = join(kinds, box, put_together(kinds, box.kind(), inner))
    return None if told is None else told.behind(["whole"])


def trees(grammar, row, known=None):
    """Point [17]: all trees of a row, one by one: pairs of a text and the box that it makes."""
    known = {} if known is None else known
    if len(row) == 1:
        return [(f"{row[0]}.{number}", box) for number, box in enumerate(grammar.meanings(row[0]))]
    if tuple(row) in known:
        return known[tuple(row)]
    told = known[tuple(row)] = []
    for name in grammar.rules():
        rule = grammar.rule_of(name)
        for places in itertools.combinations(range(1, len(row)), len(rule[1]) - 1):
            ends = [0, *places, len(row)]
            for inner in itertools.product(*[trees(grammar, row[at:to], known) for at, to in zip(ends, ends[1:])]):
                box = made(grammar.kinds(), rule, [each for text, each in inner])
                if box is not None:
                    told.append((f"({name} {' '.join(text for text, each in inner)})", box))
    return told


def readings(grammar, row):
    """Point [17]: a row's readings, as pairs of a text and the number of its trees, rising."""
    texts = [str(box) for tree, box in trees(grammar, row)]
    return [(text, texts.count(text)) for text in sorted(set(texts))]


def said(grammar, goal, most):
    """Point [18]: all rows of at most so many words with a reading that can be joined with the goal."""
    rows = [row for many in range(1, most + 1) for row in itertools.product(grammar.words(), repeat=many)]
    kinds = grammar.kinds()
    return sorted(row for row in rows if any(join(kinds, box, goal) for tree, box in trees(grammar, row)))
