"""Calls of all that the interface lists: by place and by keyword in any order, by lists and by tuples, with what is
handed in left as it was and nothing kept of it."""

import copy
import unittest

from tests.tables import all_of, speech_grammar, speech_table
from tests.test_interface import FUNCTIONS, METHODS
from traitmere.bench import Bench
from traitmere.boxes import Box, built, fits
from traitmere.desk import Desk
from traitmere.grammar import Grammar
from traitmere.joins import join, join_all, rest
from traitmere.kinds import Kinds
from traitmere.machine import compiled, run
from traitmere.pages import grammar_page, read_grammar, read_table, table_page
from traitmere.papers import clash, shows
from traitmere.texts import read, written
from traitmere.walks import at_rest, below, over, walk

KINDS = speech_table()
PAIR = read(KINDS, "made[a:name[num:#1=num] b:deed[num:#1]]")
SHARED = read(KINDS, "made[a:#1=phrase[num:one] b:#1]")
DEED = read(KINDS, "deed[num:one]")
TOLD = read(KINDS, "told[does:deed[num:one]]")
RULE = read(KINDS, "made[a:any b:any whole:mark]")
MARK = read(KINDS, "mark")
NODES = [("made", [("b", 1), ("a", 1)]), ("mark", [])]
DEEDS = [("rule", "new", RULE, ["b", "a"]), ("unrule", "tell"), ("word", "x", DEED), ("unword", "runs", DEED)]


def bench():
    """A bench with boxes, deeds and marks."""
    made = Bench(KINDS)
    for box in (PAIR, SHARED, DEED):
        made.bring(box)
    made.mark()
    made.narrow(0, "one", path=["a", "num"])
    made.mark()
    return made


def grammar():
    """A grammar with a deed that was taken back and a row that is kept."""
    made = speech_grammar()
    made.undo()
    made.readings(["dog"])
    return made


def desk():
    return Desk(grammar())


def pair():
    return copy.deepcopy(PAIR)


FUNCTION_CALLS = (
    (built, {"kinds": KINDS, "nodes": NODES}), (fits, {"kinds": KINDS, "box": PAIR}), (written, {"box": PAIR}),
    (read, {"kinds": KINDS, "text": str(PAIR)}), (below, {"kinds": KINDS, "low": SHARED, "high": PAIR}),
    (walk, {"kinds": KINDS, "low": PAIR, "high": PAIR}), (over, {"kinds": KINDS, "one": PAIR, "other": SHARED}),
    (at_rest, {"kinds": KINDS, "box": TOLD}), (join, {"kinds": KINDS, "one": SHARED, "other": RULE}),
    (join_all, {"kinds": KINDS, "boxes": [SHARED, RULE, SHARED]}), (rest, {"kinds": KINDS, "box": TOLD}),
    (clash, {"kinds": KINDS, "one": PAIR, "other": SHARED}),
    (shows, {"kinds": KINDS, "one": PAIR, "other": SHARED, "rows": clash(KINDS, PAIR, SHARED)}),
    (compiled, {"box": SHARED}), (run, {"kinds": KINDS, "rows": compiled(SHARED), "box": RULE}),
    (table_page, {"kinds": KINDS}), (grammar_page, {"grammar": grammar()}), (read_table, {"text": table_page(KINDS)}),
    (read_grammar, {"text": grammar_page(grammar())}),
)
CLASS_CALLS = ((Kinds, {}), (Bench, {"kinds": KINDS}), (Grammar, {"kinds": KINDS}), (Desk, {"grammar": grammar()}))
# What makes an object, a method's name, and what is handed in by place or name, and by name alone.
METHOD_CALLS = (
    (pair, "kind", {}, {}), (pair, "nodes", {}, {}), (pair, "behind", {"path": ["a", "num"]}, {}),
    (speech_table, "put", {"name": "new", "ups": ["told", "any"]}, {"rooms": [("on", "any"), ("who", "name")]}),
    (speech_table, "drop", {"name": "asked"}, {}), (speech_table, "must", {"name": "mark", "box": MARK}, {}),
    (speech_table, "free", {"name": "told"}, {}), (speech_table, "names", {}, {}),
    (speech_table, "ups", {"name": "one"}, {}), (speech_table, "above", {"name": "one"}, {}),
    (speech_table, "under", {"name": "num"}, {}), (speech_table, "is_below", {"one": "one", "other": "num"}, {}),
    (speech_table, "low", {"one": "one", "other": "num"}, {}), (speech_table, "rooms", {"name": "asked"}, {}),
    (speech_table, "high", {"one": "one", "other": "many"}, {}), (speech_table, "told", {"name": "told"}, {}),
    (speech_table, "home", {"room": "num"}, {}), (speech_table, "let_in", {"name": "name", "room": "num"}, {}),
    (speech_table, "must_of", {"name": "told"}, {}), (speech_table, "twin", {}, {}),
    (bench, "bring", {"box": TOLD}, {}), (bench, "narrow", {"one": 1, "kind": "name"}, {"path": ["b"]}),
    (bench, "fuse", {"one": 0, "other": 2}, {"path": ["b", "num"], "other_path": ["num"]}),
    (bench, "give", {"one": 0, "room": "num", "other": 1}, {"path": ["a"]}),
    (bench, "told", {"one": 0}, {"path": ["b"]}), (bench, "mark", {}, {}), (bench, "back", {"mark": 1}, {}),
    (grammar, "word", {"name": "cat", "box": TOLD}, {}), (grammar, "unword", {"name": "runs", "box": DEED}, {}),
    (grammar, "rule", {"name": "new", "box": RULE, "parts": ["b", "a"]}, {}), (grammar, "unrule", {"name": "tell"}, {}),
    (grammar, "together", {"deeds": DEEDS}, {}), (grammar, "undo", {}, {}), (grammar, "redo", {}, {}),
    (grammar, "words", {}, {}), (grammar, "meanings", {"name": "run"}, {}), (grammar, "rules", {}, {}),
    (grammar, "rule_of", {"name": "tell"}, {}), (grammar, "kinds", {}, {}), (grammar, "steps", {}, {}),
    (grammar, "readings", {"row": ["the", "dogs", "run"]}, {"goal": TOLD}),
    (grammar, "tree", {"row": ["runs"], "box": DEED}, {}), (grammar, "said", {"goal": DEED}, {"most": 2}),
    (grammar, "is_tree", {"row": ["runs"], "box": DEED, "text": "runs.0"}, {}), (grammar, "kept", {}, {}),
    (grammar, "twin", {}, {}), (desk, "say", {"line": "word cat mark"}, {}), (desk, "grammar", {}, {}),
)


def plain(thing):
    """What is told of an object of the program, or of what holds such objects, so that it can be compared."""
    if isinstance(thing, Kinds):
        return "kinds", table_page(thing)
    if isinstance(thing, Grammar):
        return "grammar", grammar_page(thing), all_of(thing)
    if isinstance(thing, Bench):
        return "bench", [str(thing.told(number)) for number in range(len(thing))]
    if isinstance(thing, Desk):
        return "desk", plain(thing.grammar())
    if isinstance(thing, Box):
        return "box", str(thing)
    if isinstance(thing, (list, tuple)):
        return type(thing)(plain(each) for each in thing)
    return thing


def with_tuples(thing):
    """The same with a tuple for each list."""
    return tuple(with_tuples(each) for each in thing) if isinstance(thing, (list, tuple)) else thing


def spoil(thing):
    """Change all that can be changed in what was handed in or told."""
    if isinstance(thing, (list, tuple)):
        for each in thing:
            spoil(each)
        if isinstance(thing, list):
            thing.clear()
    if isinstance(thing, Kinds):
        thing.put("spoiled")
        thing.free("told")


def ways(given, named):
    """Ways to hand in the same: pairs of what goes by place and what goes by keyword."""
    backward = {name: named[name] for name in reversed(named)}
    yield list(given.values()), named
    yield list(given.values()), backward
    yield [], {**given, **named}
    yield [], {name: value for name, value in reversed({**given, **named}.items())}
    yield [], {**backward, **given}


class TestCalls(unittest.TestCase):
    def check(self, make, given, named):
        """All ways tell the same and leave the same behind; make tells a call and the object that it is of, if any."""
        told = []
        for change in (lambda thing: thing, with_tuples):
            for places, names in ways(given, named):
                places = change(copy.deepcopy(places))
                names = {name: change(copy.deepcopy(value)) for name, value in names.items()}
                handed = plain([places, list(names.values())])
                call, owner = make()
                answer = call(*places, **names)
                self.assertEqual(plain([places, list(names.values())]), handed)
                ahead = plain([answer, owner])
                # A desk's answers are of the very grammar that is handed in, so that is left alone.
                spoil([places, list(names.values())])
                self.assertEqual(plain([answer, owner]), ahead)
                told.append(ahead)
        self.assertEqual(told, [told[0]] * len(told))

    def test_functions(self):
        for call, given in FUNCTION_CALLS + CLASS_CALLS:
            with self.subTest(call=call.__name__):
                self.check(lambda: (call, None), given, {})

    def test_methods(self):
        for maker, name, given, named in METHOD_CALLS:
            def make():
                owner = maker()
                return getattr(owner, name), owner
            with self.subTest(owner=maker.__name__, name=name):
                self.check(make, given, named)

    def test_told_lists_are_new(self):
        for maker, name, given, named in METHOD_CALLS:
            with self.subTest(owner=maker.__name__, name=name):
                owner = maker()
                answer = getattr(owner, name)(**given, **named)
                if isinstance(answer, (list, tuple, Kinds)):
                    ahead = plain([answer, owner])
                    spoil(answer)
                    self.assertEqual(plain([getattr(owner, name)(**given, **named), owner]), ahead)

    def test_defaults_left_out_and_handed_in(self):
        one, other = Kinds(), Kinds()
        one.put("a")
        other.put("a", rooms=(), ups=("any",))
        self.assertEqual(one, other)
        for name, given in (("fuse", (0, 1)), ("narrow", (2, "any")), ("give", (1, "c", 2)), ("told", (0,))):
            first, second = bench(), bench()
            names = {"path": (), "other_path": ()} if name == "fuse" else {"path": ()}
            self.assertEqual(getattr(first, name)(*given), getattr(second, name)(*given, **names))
            self.assertEqual(plain(first), plain(second))
        self.assertEqual(grammar().readings(["run"]), grammar().readings(["run"], goal=None))
        self.assertEqual(grammar().said(DEED), grammar().said(DEED, most=3))

    def test_all_that_is_listed_is_called_here(self):
        self.assertEqual(sorted(call.__name__ for call, given in FUNCTION_CALLS),
                         sorted(call.__name__ for call, given in FUNCTIONS))
        listed = [(owner.__name__, name) for owner in METHODS for name in METHODS[owner] if not name.startswith("__")]
        called = [(type(maker()).__name__, name) for maker, name, given, named in METHOD_CALLS]
        self.assertEqual(sorted(called), sorted(listed))
        self.assertEqual({owner for owner, given in CLASS_CALLS} | {Box}, set(METHODS))


if __name__ == "__main__":
    unittest.main()
