import itertools
import random
import unittest

from tests import words
from tests.tables import random_box, random_table, rich_table, small_table, table
from traitmere.joins import join
from traitmere.kinds import Kinds
from traitmere.papers import clash, shows
from traitmere.texts import read

WORDS = ("roots", "step", "turn", "chain", "own", "too", "meet", "let", "must", "none")


def pairs_of(seed, rounds, many):
    """Tables with pairs of boxes, many with shared rooms, rings and musts."""
    chance = random.Random(seed)
    for count in range(rounds):
        kinds = rich_table() if count % 4 == 0 else random_table(chance, chance.choice((4, 8, 14)))
        for again in range(many):
            yield kinds, *[random_box(kinds, chance, chance.randint(1, 7)) for each in "ab"]


class PaperCase(unittest.TestCase):
    """Papers of boxes that are told by their texts, in a table."""

    def box(self, text):
        return read(self.kinds, text)

    def check_clash(self, one, other):
        """A paper is told and taken, in either order of the boxes; tells that of the first order."""
        papers = []
        for first, second in ((self.box(one), self.box(other)), (self.box(other), self.box(one))):
            self.assertIsNone(join(self.kinds, first, second))
            papers.append(clash(self.kinds, first, second))
            self.assert_paper(first, second, papers[-1])
        return papers[0]

    def assert_paper(self, one, other, paper):
        self.assertIsInstance(paper, list)
        self.assertTrue(all(isinstance(row, tuple) for row in paper))
        self.assertIs(shows(self.kinds, one, other, paper), True)
        self.assertTrue(words.is_paper(self.kinds, one, other, paper))

    def check_shows(self, one, other, rows, taken):
        self.assertIs(shows(self.kinds, self.box(one), self.box(other), rows), taken, rows)
        self.assertIs(shows(self.kinds, self.box(one), self.box(other), tuple(rows)), taken, rows)
        self.assertEqual(words.is_paper(self.kinds, self.box(one), self.box(other), rows), taken, rows)


class TestClash(PaperCase):
    def setUp(self):
        self.kinds = table(
            ("thing", "any", ""), ("live", "thing", ""), ("red", "thing", ""), ("carp", "live red", ""),
            ("big", "thing", ""), ("holder", "any", "in:thing out:any"), ("tank", "holder", "in:live"),
            ("case", "holder", "in:red"), ("vase", "tank case", ""), ("loop", "any", "on:any"),
            ("kept", "any", "by:any"), musts=("kept[by:live]",))

    def test_roots_alone(self):
        self.check_clash("live", "big")
        self.check_clash("live", "holder")

    def test_behind_rooms(self):
        self.check_clash("holder[out:live]", "holder[out:big]")
        self.check_clash("loop[on:loop[on:live]]", "loop[on:loop[on:big]]")
        self.check_clash("holder[in:live out:loop[on:holder[out:any]]]", "holder[in:red out:loop[on:loop]]")

    def test_shared_rooms(self):
        self.check_clash("holder[in:#1=thing out:#1]", "holder[in:big out:live]")
        self.check_clash("holder[in:#1=thing out:#1]", "tank[out:big]")

    def test_rings(self):
        self.check_clash("#1=loop[on:loop[on:#1]]", "loop[on:loop[on:loop[on:loop[on:loop[on:live]]]]]")
        self.check_clash("#1=loop[on:#1]", "loop[on:loop[on:thing]]")
        self.check_clash("#1=loop[on:loop[on:#1]]", "loop[on:#1=loop[on:loop[on:loop[on:holder[out:#1]]]]]")

    def test_lets(self):
        self.check_clash("holder[in:big]", "tank")
        self.check_clash("holder[in:big]", "vase")
        paper = self.check_clash("loop[on:holder[in:big]]", "loop[on:case]")
        self.assertIn("let", [row[0] for row in paper])

    def test_what_the_low_of_two_kinds_lets(self):
        self.kinds.put("pail", ["tank"], rooms=[("lid", "any")])
        self.kinds.put("urn", ["pail", "vase"], rooms=[("lid", "live")])
        paper = self.check_clash("pail[lid:big]", "vase")
        self.assertIn("meet", [row[0] for row in paper])

    def test_musts(self):
        paper = self.check_clash("kept[by:big]", "kept")
        self.assertEqual([row[0] for row in paper].count("must"), 1)
        self.check_clash("kept[by:holder]", "any")
        self.check_clash("loop[on:kept]", "loop[on:kept[by:loop]]")

    def test_lets_behind_lets(self):
        self.kinds.put("crate", ["holder"], rooms=[("top", "holder")])
        self.kinds.put("safe", ["crate"], rooms=[("top", "tank")])
        self.kinds.put("vault", ["safe"], rooms=[("out", "safe")])
        for one, other in (("crate[top:holder[in:big]]", "safe"), ("crate[out:crate[top:holder[in:big]]]", "vault"),
                           ("crate[out:crate[top:holder[in:#1=thing out:#1]]]", "vault[out:safe[top:tank[out:big]]]")):
            self.check_clash(one, other)

    def test_musts_of_what_musts_bring_in(self):
        self.kinds.put("shelf", rooms=[("at", "any")])
        self.kinds.must("shelf", self.box("shelf[at:kept[by:big]]"))
        for one, other in (("shelf", "any"), ("shelf[at:kept]", "shelf"), ("loop[on:shelf]", "loop")):
            self.check_clash(one, other)

    def test_boxes_that_have_no_rest_by_themselves(self):
        one = self.box("kept[by:big]")
        self.assertIsNone(join(self.kinds, one, one))
        self.assert_paper(one, one, clash(self.kinds, one, one))

    def test_joined_boxes_have_no_paper(self):
        for one, other in (("live", "red"), ("any", "holder[in:live]"), ("kept[by:carp]", "kept"),
                           ("#1=loop[on:#1]", "loop[on:loop]"), ("holder[in:#1=thing out:#1]", "tank")):
            self.assertIsNone(clash(self.kinds, self.box(one), self.box(other)))
            self.assertIsNone(clash(self.kinds, self.box(other), self.box(one)))

    def test_a_change_of_the_table_counts(self):
        self.kinds.put("fish", ["live", "big"])
        self.assertIsNone(clash(self.kinds, self.box("live"), self.box("big")))
        self.kinds.drop("fish")
        self.check_clash("live", "big")

    def test_told_papers_are_new(self):
        one, other = self.box("live"), self.box("big")
        paper = clash(self.kinds, one, other)
        again = list(paper)
        paper.clear()
        self.assertEqual(clash(self.kinds, one, other), again)

    def test_long_chains(self):
        many = 3000
        one = self.box("loop[on:" * many + "live" + "]" * many)
        other = self.box("loop[on:" * many + "big" + "]" * many)
        self.assertTrue(shows(self.kinds, one, other, clash(self.kinds, one, other)))
        ring = self.box("#1=loop[on:#1]")
        self.assertTrue(shows(self.kinds, ring, other, clash(self.kinds, ring, other)))

    def test_calls_by_keyword(self):
        one, other = self.box("live"), self.box("big")
        paper = clash(other=other, one=one, kinds=self.kinds)
        self.assertIs(shows(rows=paper, other=other, one=one, kinds=self.kinds), True)
        self.assertIs(shows(kinds=self.kinds, one=one, other=other, rows=tuple(paper)), True)

    def test_what_is_handed_in_stays(self):
        kinds = self.kinds.twin()
        one, other = self.box("holder[in:#1=thing out:#1]"), self.box("holder[in:big out:live]")
        paper = clash(kinds, one, other)
        again = list(paper)
        shows(kinds, one, other, paper)
        self.assertEqual(paper, again)
        self.assertEqual(kinds, self.kinds)
        self.assertEqual([str(one), str(other)], ["holder[in:#1=thing out:#1]", "holder[in:big out:live]"])


class TestPaperOrJoin(PaperCase):
    def test_just_one_of_both(self):
        joined = 0
        papers = 0
        met = set()
        for self.kinds, one, other in pairs_of(1, 60, 30):
            paper = clash(self.kinds, one, other)
            if join(self.kinds, one, other) is None:
                self.assert_paper(one, other, paper)
                met |= {row[0] for row in paper}
                papers += 1
            else:
                self.assertIsNone(paper)
                joined += 1
        self.assertGreater(min(joined, papers), 300)
        self.assertEqual(met, set(WORDS))

    def test_no_row_can_be_left_out_or_come_twice(self):
        for self.kinds, one, other in pairs_of(2, 20, 10):
            paper = clash(self.kinds, one, other)
            for at in range(len(paper or [])):
                self.assertIs(shows(self.kinds, one, other, paper[:at] + paper[at + 1:]), False)
                self.assertIs(shows(self.kinds, one, other, paper[:at] + [paper[at]] + paper[at:]), False)
                self.assertIs(shows(self.kinds, one, other, paper[:at]), False)
                self.assertIs(shows(self.kinds, one, other, paper + [paper[at]]), False)

    def test_changed_papers_are_taken_just_where_the_words_take_them(self):
        chance = random.Random(3)
        answers = []
        for self.kinds, one, other in pairs_of(4, 40, 12):
            paper = clash(self.kinds, one, other)
            for count in range(12 if paper else 0):
                rows = self.changed(chance, paper)
                answers.append(shows(self.kinds, one, other, rows))
                self.assertIs(answers[-1], words.is_paper(self.kinds, one, other, rows), rows)
        self.assertGreater(answers.count(True), 20)
        self.assertGreater(answers.count(False), 1000)

    def changed(self, chance, paper):
        """The paper with two rows exchanged, or something in a row changed."""
        rows = list(paper)
        at = chance.randrange(len(rows))
        if chance.random() < 0.3:
            to = chance.randrange(len(rows))
            rows[at], rows[to] = rows[to], rows[at]
        else:
            row = list(rows[at])
            place = chance.randrange(len(row))
            row[place] = chance.choice([
                chance.randint(-1, len(rows)), chance.choice(WORDS), chance.choice(self.kinds.names()),
                chance.choice("rstabc"), ("one", chance.randint(-1, 3)), ("other", chance.randint(-1, 3)),
                ("must", chance.randint(-1, len(rows)), chance.randint(-1, 2)), ("must", 0), ()])
            rows[at] = tuple(row)
        return rows

    def test_no_paper_where_boxes_are_joined(self):
        for self.kinds, one, other in pairs_of(5, 20, 10):
            paper = clash(self.kinds, one, other)
            top = read(self.kinds, "any")
            if paper:
                self.assertIs(shows(self.kinds, one, top, paper) and join(self.kinds, one, top) is not None, False)
                self.assertIs(shows(self.kinds, top, top, paper), False)


class TestShows(PaperCase):
    """Papers written by hand."""

    def setUp(self):
        self.kinds = table(
            ("thing", "any", ""), ("live", "thing", ""), ("red", "thing", ""), ("carp", "live red", ""),
            ("big", "thing", ""), ("pair", "any", "left:any right:any"), ("near", "pair", "left:live"),
            ("kept", "any", "by:any"), musts=("kept[by:live]", "carp"))

    # The least paper of all, and one whose rows are of all other words.
    LEAST = [("roots",), ("own", ("one", 0)), ("own", ("other", 0)), ("too", 0, 1), ("none", 3, 2)]

    def test_the_least_paper(self):
        self.check_shows("live", "big", self.LEAST, True)
        self.check_shows("big", "live", self.LEAST, True)
        self.check_shows("live", "thing", self.LEAST, False)
        self.check_shows("live", "red", self.LEAST, False)
        self.check_shows("live", "any", self.LEAST, False)

    def test_turns_too(self):
        rows = [("roots",), ("own", ("other", 0)), ("turn", 0), ("too", 2, 1), ("own", ("one", 0)), ("none", 4, 3)]
        self.check_shows("live", "big", rows, True)
        self.check_shows("live", "carp", rows, False)

    def test_steps_and_chains(self):
        rows = [("roots",), ("step", 0, "left"), ("step", 0, "right"), ("turn", 2), ("chain", 1, 3),
                ("own", ("one", 1)), ("own", ("one", 2)), ("too", 4, 5), ("none", 6, 7)]
        self.check_shows("pair[left:live right:big]", "pair[left:#1=any right:#1]", rows, True)
        self.check_shows("pair[left:live right:red]", "pair[left:#1=any right:#1]", rows, False)
        self.check_shows("pair[left:live right:big]", "pair[left:any right:any]", rows, False)
        self.check_shows("pair[left:live right:big]", "pair[left:any]", rows, False)
        self.check_shows("pair[left:live]", "pair[left:#1=any right:#1]", rows, False)

    def test_meets(self):
        rows = [("roots",), ("step", 0, "left"), ("step", 0, "right"), ("own", ("one", 1)), ("own", ("one", 2)),
                ("too", 1, 3), ("too", 2, 4), ("meet", 5, 6), ("own", ("other", 1)), ("none", 7, 8)]
        self.check_shows("pair[left:live right:red]", "pair[left:#1=big right:#1]", rows, True)
        self.check_shows("pair[left:live right:red]", "pair[left:#1=carp right:#1]", rows, False)
        self.check_shows("pair[left:live right:big]", "pair[left:#1=red right:#1]", rows, False)

    def test_meets_of_one_row_with_itself(self):
        rows = self.LEAST[:3] + [("meet", 1, 1), ("too", 0, 3), ("none", 4, 2)]
        self.check_shows("live", "big", rows, True)

    def test_lets(self):
        rows = [("roots",), ("own", ("other", 0)), ("turn", 0), ("too", 2, 1), ("let", 3, "left"),
                ("own", ("one", 1)), ("none", 4, 5)]
        self.check_shows("pair[left:big]", "near", rows, True)
        self.check_shows("pair[left:red]", "near", rows, False)
        self.check_shows("pair[left:big]", "pair", rows, False)
        self.check_shows("pair[right:big]", "near", rows, False)

    def test_a_kind_that_lets_nothing_there(self):
        rows = [("roots",), ("own", ("one", 0)), ("too", 0, 1), ("let", 2, "left"), ("own", ("other", 1)),
                ("none", 3, 4)]
        self.check_shows("any", "near[left:carp]", rows, False)
        self.check_shows("kept", "near[left:carp]", rows, False)
        self.check_shows("near", "pair[left:big]", rows, True)

    def test_musts(self):
        rows = [("own", ("one", 0)), ("must", 0, "kept"), ("step", 1, "by"), ("own", ("must", 1, 1)), ("turn", 2),
                ("too", 4, 3), ("own", ("one", 1)), ("none", 6, 5)]
        self.check_shows("kept[by:big]", "any", rows, True)
        self.check_shows("kept[by:carp]", "any", rows, False)
        self.check_shows("kept", "kept[by:big]", rows, False)
        self.kinds.free("kept")
        self.check_shows("kept[by:big]", "any", rows, False)

    def test_a_must_of_a_kind_above(self):
        self.kinds.put("shelf", ["kept"])
        rows = [("own", ("one", 0)), ("must", 0, "kept"), ("step", 1, "by"), ("own", ("must", 1, 1)), ("turn", 2),
                ("too", 4, 3), ("own", ("one", 1)), ("none", 6, 5)]
        self.check_shows("shelf[by:big]", "any", rows, True)
        for kind in ("shelf", "any", "carp", "thing", "nobody", ""):
            self.check_shows("shelf[by:big]", "any", [rows[0], ("must", 0, kind), *rows[2:]], False)

    def test_like_rows_of_must(self):
        rows = [("own", ("one", 0)), ("must", 0, "kept"), ("must", 0, "kept"), ("turn", 1), ("chain", 3, 2),
                ("step", 4, "by"), ("own", ("must", 1, 1)), ("too", 5, 6), ("step", 2, "by"), ("turn", 8),
                ("too", 9, 7), ("own", ("one", 1)), ("none", 10, 11)]
        self.check_shows("kept[by:big]", "any", rows, True)

    def test_other_like_rows(self):
        rows = [("roots",), ("own", ("one", 0)), ("own", ("other", 0)), ("roots",), ("too", 3, 1), ("too", 0, 1),
                ("meet", 4, 5), ("none", 6, 2)]
        self.check_shows("live", "big", rows, False)
        rows[3] = ("turn", 0)
        rows.insert(4, ("turn", 3))
        rows[5:] = [("too", 4, 1), ("too", 0, 1), ("meet", 5, 6), ("none", 7, 2)]
        self.check_shows("live", "big", rows, True)

    def test_a_row_that_none_names(self):
        for extra in (("turn", 0), ("own", ("one", 0)), ("too", 0, 1), ("meet", 2, 2)):
            at = self.LEAST[:3] + [extra] + [("too", 0, 1), ("none", 4, 2)]
            self.check_shows("live", "big", at, False)
        rows = self.LEAST[:4] + [("turn", 0), ("none", 3, 2)]
        self.check_shows("live", "big", rows, False)

    def test_the_end_stands_last_alone(self):
        self.check_shows("live", "big", self.LEAST + [("turn", 0)], False)
        self.check_shows("live", "big", self.LEAST + [self.LEAST[-1]], False)
        self.check_shows("live", "big", self.LEAST + [("none", 2, 3)], False)
        self.check_shows("live", "big", self.LEAST[:4] + [("none", 2, 3), ("none", 3, 2)], False)
        self.check_shows("live", "big", self.LEAST[:4] + [("none", 2, 3)], True)
        self.check_shows("live", "big", self.LEAST[:-1], False)

    def test_rows_exchanged(self):
        for one, other in itertools.combinations(range(5), 2):
            rows = list(self.LEAST)
            rows[one], rows[other] = rows[other], rows[one]
            # None of rows 2 and 3 names the other one, and the last row names both.
            self.check_shows("live", "big", rows, (one, other) == (2, 3))
        rows = [self.LEAST[1], self.LEAST[0], self.LEAST[2], ("too", 1, 0), ("none", 3, 2)]
        self.check_shows("live", "big", rows, True)

    def test_rows_are_named_from_nought_on_and_ahead(self):
        for row, given in ((3, ("too", -1, 1)), (3, ("too", 0, -4)), (3, ("too", 0, 3)), (3, ("too", 4, 1)),
                           (4, ("none", -2, 2)), (4, ("none", 3, -3)), (4, ("none", 3, 5)), (4, ("none", 4, 2)),
                           (3, ("too", 0, 2)), (3, ("too", 1, 1)), (4, ("none", 0, 2)), (4, ("none", 3, 99))):
            rows = list(self.LEAST)
            rows[row] = given
            self.check_shows("live", "big", rows, False)

    def test_nodes_that_there_are_not(self):
        for node in (("one", 1), ("one", -1), ("other", 0), ("two", 0), ("one",), ("one", 0, 0), ("must", 0, 0), (),
                     ("must", 1, 0), ("must", 0), ("one", "0"), (0, "one"), 0, "one", ("must", -1, 0)):
            rows = list(self.LEAST)
            rows[1] = ("own", node)
            self.check_shows("live", "big", rows, False)

    def test_nodes_of_musts_that_there_are_not(self):
        for node in (("must", 1, 2), ("must", 1, -1), ("must", 0, 1), ("must", 2, 1), ("must", 3, 1), ("must", 1, 0),
                     ("must", -7, 1), ("must", "1", 1), ("must", 1), ("must", 1, 1, 1), ("kept", 1, 1)):
            rows = [("own", ("one", 0)), ("must", 0, "kept"), ("step", 1, "by"), ("own", node), ("turn", 2),
                    ("too", 4, 3), ("own", ("one", 1)), ("none", 6, 5)]
            self.check_shows("kept[by:big]", "any", rows, False)

    def within_musts(self, lead, again):
        """A paper in which a row of "must" is named within nodes alone."""
        return [("own", (*lead, 0)), ("must", 0, "shelf"), ("own", (*again, 1)), ("must", 2, "kept"), ("step", 3, "by"),
                ("own", (*again, 2)), ("too", 4, 5), ("own", ("must", 3, 1)), ("none", 6, 7)]

    def test_rows_that_are_named_within_nodes_alone(self):
        self.kinds.put("shelf", rooms=[("at", "any")])
        self.kinds.must("shelf", self.box("shelf[at:kept[by:big]]"))
        self.check_shows("shelf", "any", self.within_musts(("one",), ("must", 1)), True)
        self.check_shows("any", "shelf", self.within_musts(("other",), ("must", 1)), True)
        self.check_shows("any", "shelf", self.within_musts(("one",), ("must", 1)), False)
        # The same nodes throughout, but by names that aren't names of nodes.
        for lead in ((), ("two",), ("must",), ("one", 0), ("one", 1), ("must", 0), ("must", 1), (0,)):
            self.check_shows("shelf", "shelf", self.within_musts(lead, ("must", 1)), False)
        for again in (("one", 1), ("other", 1), ("kept", 1), ("shelf", 1), ("must", 1, 1), ("must", 1, 0), ("must", 0),
                      ("must", 2), ("must", 3), ("must", -8), (1,), ("must",), ("one",), ("must", "1"), ("must", (1,))):
            self.check_shows("shelf", "shelf", self.within_musts(("one",), again), False)

    def test_nodes_below_nought(self):
        self.kinds.put("base", rooms=[("at", "any")])
        self.kinds.put("top", ["base"])
        self.kinds.put("side", ["base"])
        self.kinds.put("edge", ["top", "side"])
        self.kinds.must("top", self.box("top[at:live]"))
        self.kinds.must("side", self.box("side[at:big]"))
        for number, taken in ((0, True), (-1, False), (1, False)):
            rows = [("own", ("one", number)), ("must", 0, "top"), ("must", 0, "side"), ("turn", 1), ("chain", 3, 2),
                    ("step", 4, "at"), ("own", ("must", 1, 1)), ("too", 5, 6), ("own", ("must", 2, 1)), ("none", 7, 8)]
            self.check_shows("edge", "any", rows, taken)

    def test_rows_of_no_form(self):
        wrong = [(), ("roots", 0), ("own",), ("own", ("one", 0), 0), ("turn",), ("turn", 0, 0), ("too", 0),
                 ("too", 0, 1, 1), ("step", 0), ("step", 0, "left", "left"), ("step", 0, 1), ("step", "left", 0),
                 ("let", 1), ("let", 1, 0), ("must", 1), ("must", 1, 0), ("must", "kept", 1), ("none",), ("chain", 0),
                 ("meet", 1), (0,), ("Roots",), ("",), (("roots",),), (0, "too", 1), ("turn", "0"), ("turn", (0,)),
                 ("too", (), 1), ("meet", 1, ("own", ("one", 0))), ("too 0 1",), ("step", 0, ("left",))]
        for row in wrong:
            for at in range(5):
                rows = list(self.LEAST)
                rows[at] = row
                self.check_shows("live", "big", rows, False)

    def test_values_of_no_kind_at_all(self):
        for row in (None, "roots", 0, ["roots"], [], {"too": 1}, ("too", None, 1), ("own", ["one", 0]), ("own", None),
                    ("turn", 0.0), ("own", {"one"}), ("too", [], 1), (None,), ([],), ("too", True, 1)):
            rows = list(self.LEAST)
            rows[3] = row
            self.assertIs(shows(self.kinds, self.box("live"), self.box("big"), rows), False)

    def test_no_rows(self):
        self.check_shows("live", "big", [], False)
        self.check_shows("live", "live", [], False)

    def test_very_deep_tuples(self):
        node = ("one", 0)
        for count in range(100000):
            node = ("own", node)
        self.assertIs(shows(self.kinds, self.box("live"), self.box("big"), [node]), False)
        rows = list(self.LEAST)
        rows[1] = ("own", node)
        self.assertIs(shows(self.kinds, self.box("live"), self.box("big"), rows), False)
        # Where Python lets such a tuple go it goes in layers by itself.
        while len(node) == 2 and isinstance(node[1], tuple):
            node = node[1]

    def test_the_table_and_the_boxes_count(self):
        self.check_shows("live", "big", self.LEAST, True)
        self.kinds.put("whale", ["live", "big"])
        self.check_shows("live", "big", self.LEAST, False)
        self.assertIs(shows(Kinds(), read(Kinds(), "any"), read(Kinds(), "any"), self.LEAST), False)
        small = small_table()
        self.assertIs(shows(small, read(small, "noun"), read(small, "verb"), self.LEAST), True)


if __name__ == "__main__":
    unittest.main()
