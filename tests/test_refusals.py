"""Each of the twenty-seven refusals by a plain call."""

import unittest

from tests.tables import table
from traitmere import errors
from traitmere.bench import Bench
from traitmere.boxes import built
from traitmere.grammar import Grammar
from traitmere.kinds import Kinds
from traitmere.pages import read_grammar, read_table
from traitmere.texts import read

FAMILIES = ("TraitError", "Missing")


def whole_table():
    """A table in which each refusal of a table can be had."""
    return table(("one", "any", ""), ("other", "any", ""), ("both", "one other", ""), ("lone", "one", ""),
                 ("far", "any", ""), ("base", "any", "in:any"), ("near", "base one", "in:one"),
                 ("away", "base far", "in:far"), ("made", "any", "a:any b:any whole:any"), musts=("near[in:both]",))


class TestRefusals(unittest.TestCase):
    def setUp(self):
        self.kinds = whole_table()
        self.met = []

    def box(self, text):
        return read(self.kinds, text)

    def check(self, called, fields, call, *given, **named):
        """The call is refused by just this class, straight under its family, with `called` and these fields alone."""
        with self.assertRaises((errors.TraitError, errors.Missing)) as caught:
            call(*given, **named)
        refusal = caught.exception
        self.assertIs(type(refusal), getattr(errors, called))
        self.assertEqual(vars(refusal), {"called": called, **fields})
        self.assertNotEqual(isinstance(refusal, errors.TraitError), isinstance(refusal, errors.Missing))
        self.assertIn(type(refusal).__bases__[0].__name__, FAMILIES)
        self.met.append(called)

    def check_tables(self):
        kinds = self.kinds
        self.check("BadName", {"name": "One"}, kinds.put, "One")
        self.check("BadName", {"name": "In"}, kinds.put, "new", rooms=[("In", "any")])
        self.check("Taken", {"name": "one"}, kinds.put, "one")
        self.check("Taken", {"name": "near"}, kinds.must, "near", self.box("near[in:both]"))
        self.check("Full", {}, table(*[(name, "any", "") for name in "abcdefghijklmnopqrstuvw"]).put, "more")
        self.check("NoKind", {"name": "no"}, kinds.put, "new", ["no"])
        self.check("BadParts", {}, kinds.put, "new", [])
        self.check("Forked", {"one": "one", "other": "other"}, kinds.put, "new", ["other", "one"])
        self.check("Twice", {"room": "on"}, kinds.put, "new", rooms=[("on", "any"), ("on", "any")])
        self.check("Strange", {"room": "in"}, kinds.put, "new", rooms=[("in", "any")])
        self.check("Wider", {"room": "in"}, kinds.put, "new", ["near"], rooms=[("in", "other")])
        self.check("NoFit", {"room": "in"}, kinds.put, "new", ["near", "away"])
        self.check("Ring", {"name": "base"}, kinds.must, "base", self.box("base[in:base]"))
        self.check("Used", {"name": "one"}, kinds.drop, "one")
        self.check("Unfit", {}, kinds.must, "one", self.box("other"))
        self.check("NoMust", {"name": "one"}, kinds.free, "one")
        self.check("NoRoom", {"room": "no"}, kinds.home, "no")
        for call in (kinds.drop, kinds.free, kinds.ups, kinds.above, kinds.under, kinds.rooms, kinds.told,
                     kinds.must_of):
            self.check("NoKind", {"name": "no"}, call, "no")
        for call in (kinds.is_below, kinds.low, kinds.high):
            self.check("NoKind", {"name": "no"}, call, "no", "none")
            self.check("NoKind", {"name": "none"}, call, "one", "none")
        self.check("NoKind", {"name": "no"}, kinds.let_in, "no", "none")
        self.check("NoKind", {"name": "no"}, kinds.must, "no", self.box("any"))

    def check_boxes(self):
        self.check("BadNodes", {"at": 0}, built, self.kinds, [])
        self.check("BadNodes", {"at": 41}, built, self.kinds, [("any", [])] * 41)
        self.check("BadNodes", {"at": -1}, built, self.kinds, [("base", [("in", -1)])])
        self.check("NoKind", {"name": "no"}, built, self.kinds, [("no", [])])
        self.check("NoRoom", {"room": "on"}, built, self.kinds, [("base", [("on", 0)])])
        self.check("Twice", {"room": "in"}, built, self.kinds, [("base", [("in", 0), ("in", 0)])])
        self.check("Unfit", {}, built, self.kinds, [("near", [("in", 1)]), ("far", [])])
        self.check("NoRoom", {"room": "on"}, self.box("base[in:any]").behind, ["in", "on"])
        self.check("BadText", {}, read, self.kinds, "any ")

    def check_bench(self):
        bench = Bench(self.kinds)
        self.check("NoRest", {}, bench.bring, self.box("near[in:lone]"))
        self.check("NoBox", {"number": 0}, bench.told, 0)
        self.check("NoMark", {"number": 0}, bench.back, 0)
        bench.bring(self.box("base"))
        self.check("NoKind", {"name": "no"}, bench.narrow, 0, "no")
        self.check("NoRoom", {"room": "a"}, bench.give, 0, "a", 0)

    def check_grammar(self):
        grammar = Grammar(self.kinds)
        self.check("BadName", {"name": ""}, grammar.word, "", self.box("any"))
        self.check("NoRest", {}, grammar.word, "w", self.box("near[in:lone]"))
        self.check("NothingLeft", {}, grammar.undo)
        self.check("BadRow", {}, grammar.readings, [])
        self.check("BadMost", {"most": 5}, grammar.said, self.box("any"), most=5)
        self.check("NoWord", {"name": "no"}, grammar.meanings, "no")
        self.check("NoRule", {"name": "no"}, grammar.unrule, "no")
        self.check("BadParts", {}, grammar.rule, "r", self.box("made"), ["a", "b"])
        grammar.word("w", self.box("any"))
        self.check("Taken", {"name": "w"}, grammar.word, "w", self.box("any"))
        self.check("NoMeaning", {}, grammar.unword, "w", self.box("one"))
        self.check("NoMeaning", {}, grammar.tree, ["w"], self.box("one"))
        self.check("NothingLeft", {}, grammar.redo)
        self.check("Unfit", {}, Grammar(Kinds()).word, "w", self.box("one"))
        self.check("BadPage", {"row": 1}, read_table, "kind one any\nkind one any")
        self.check("BadPage", {"row": 1}, read_grammar, "kind one any")

    def test_all(self):
        self.check_tables()
        self.check_boxes()
        self.check_bench()
        self.check_grammar()
        self.assertEqual(self.kinds, whole_table())
        defined = [name for name, thing in vars(errors).items() if isinstance(thing, type)]
        self.assertEqual(sorted(set(self.met)), sorted(set(defined) - set(FAMILIES)))
        self.assertEqual(len(set(self.met)), 27)


if __name__ == "__main__":
    unittest.main()
