"""The greatest tables and boxes that can be handed in, and greater boxes that come of joining."""

import random
import unittest

from tests.tables import random_box, refused, table
from traitmere.bench import Bench
from traitmere.boxes import built
from traitmere.desk import Desk
from traitmere.errors import BadNodes, Full
from traitmere.grammar import Grammar
from traitmere.joins import join, join_all, rest
from traitmere.kinds import MOST_KINDS
from traitmere.machine import compiled, run
from traitmere.pages import grammar_page, read_grammar, read_table, table_page
from traitmere.papers import clash, shows
from traitmere.texts import read, written
from traitmere.walks import at_rest, below, over, walk


def full_table():
    """Twenty-four kinds: a few with rooms, and below them all that two of five kinds have below both, with musts."""
    tops = "abcde"
    rows = [("leaf", "any", ""), ("web", "any", "l:any m:any r:any"), ("made", "any", "x:any y:any whole:any")]
    rows += [(top, "web", "") for top in tops] + [("f" + top, top, f"r:{top}") for top in tops]
    rows += [(one + other, f"{one} {other}", "") for at, one in enumerate(tops) for other in tops[at + 1:]]
    return table(*rows, musts=("a[l:leaf]", "b[m:leaf]", "cd[l:leaf m:leaf]"))


class TestBounds(unittest.TestCase):
    def setUp(self):
        self.kinds = full_table()

    def box(self, text):
        return read(self.kinds, text)

    def chain(self, many, kind="web", end="web", room="r"):
        """A box of so many nodes in a row."""
        return built(self.kinds, [(kind, [(room, at + 1)]) for at in range(many - 1)] + [(end, [])])

    def test_twenty_four_kinds(self):
        self.assertEqual((len(self.kinds), MOST_KINDS), (24, 24))
        refused(self, Full, self.kinds.put, "more")
        page = table_page(self.kinds)
        self.assertEqual(read_table(page), self.kinds)
        self.kinds.drop("fe")
        self.kinds.put("more", ["fa"])
        self.assertEqual(read_table(table_page(self.kinds)), self.kinds)

    def test_forty_nodes(self):
        box = self.chain(40)
        self.assertEqual(len(box), 40)
        self.assertEqual(str(box), "web[r:" * 39 + "web" + "]" * 39)
        self.assertEqual(self.box(str(box)), box)
        self.assertEqual(refused(self, BadNodes, self.chain, 41).at, 41)

    def test_more_nodes_that_come_of_joining(self):
        one, other = self.chain(40), self.chain(40, room="l")
        told = join(self.kinds, one, other)
        self.assertEqual(len(told), 79)
        self.check_box(told)
        for at in range(1, 4):
            longer = join(self.kinds, told, self.chain(at + 1, room="m", end="fa"))
            self.assertEqual(longer, self.box(str(longer)))

    def check_box(self, box):
        """What is asked of a box of very many nodes."""
        self.assertEqual(read(self.kinds, written(box)), box)
        self.assertTrue(at_rest(self.kinds, box))
        self.assertEqual(rest(self.kinds, box), box)
        self.assertEqual(join(self.kinds, box, box), box)
        self.assertEqual(over(self.kinds, box, box), box)
        self.assertEqual(walk(self.kinds, box, box), list(range(len(box))))
        self.assertEqual(run(self.kinds, compiled(box), self.box("any")), box)
        bench = Bench(self.kinds)
        self.assertEqual(bench.told(bench.bring(box)), box)
        paper = clash(self.kinds, box, self.box("leaf"))
        self.assertIs(shows(self.kinds, box, self.box("leaf"), paper), True)
        grammar = Grammar(self.kinds)
        grammar.word("long", box)
        self.assertEqual(read_grammar(grammar_page(grammar)), grammar)
        self.assertEqual(Desk(grammar).say("read long"), str(box))
        self.assertEqual(Desk(grammar).say(f"join {box} ; any"), str(box))

    def test_hundreds_of_nodes(self):
        box = self.chain(40)
        for count in range(6):
            bench = Bench(self.kinds)
            bench.bring(box)
            bench.bring(box)
            bench.bring(self.box("web"))
            bench.give(2, "l", 0)
            bench.give(2, "m", 1)
            box = bench.told(2)
        self.assertEqual(len(box), 64 * 40 + 63)
        self.check_box(box)

    def test_many_boxes_of_forty_nodes(self):
        chance = random.Random(7)
        joined = 0
        for count in range(60):
            one, other = (random_box(self.kinds, chance, 40, chance.choice(("a", "b", "web")), 0.4) for each in "ab")
            for box in (one, other):
                self.assertEqual(read(self.kinds, written(box)), box)
            told = join(self.kinds, one, other)
            paper = clash(self.kinds, one, other)
            if told is None:
                self.assertIs(shows(self.kinds, one, other, paper), True)
            else:
                self.assertIsNone(paper)
                self.assertTrue(below(self.kinds, told, one) and below(self.kinds, told, other))
                self.check_box(told)
                joined += 1
            self.assertEqual(run(self.kinds, compiled(one), other), told)
            self.assertEqual(join_all(self.kinds, [other, one, other]), told)
        self.assertGreater(joined, 5)
        self.assertLess(joined, 55)


if __name__ == "__main__":
    unittest.main()
