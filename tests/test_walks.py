import itertools
import random
import unittest

from tests import words
from tests.tables import all_boxes, random_box, random_table, small_table, some_boxes, table
from traitmere.boxes import Box, built, fits
from traitmere.kinds import Kinds
from traitmere.texts import read
from traitmere.walks import at_rest, below, over, walk


def small_webs():
    """A table whose boxes of few nodes can all be told, with rooms narrowed and kinds without a low."""
    return table(("a", "any", "r:any"), ("b", "a", ""), ("c", "a", "r:a"), ("d", "b c", "r:b"))


def two_rooms():
    return table(("a", "any", "r:any s:any"), ("b", "a", "r:a"))


class BoxCase(unittest.TestCase):
    """Boxes by their texts, in a table."""

    def setUp(self):
        self.kinds = small_table()

    def box(self, text):
        return read(self.kinds, text)

    def ring(self, many):
        return self.box("#1=ring[on:" + "ring[on:" * (many - 1) + "#1" + "]" * many)


class TestWalk(BoxCase):
    def check_walk(self, low, high, numbers):
        self.assertEqual(walk(self.kinds, self.box(low), self.box(high)), numbers)
        self.assertIs(below(self.kinds, self.box(low), self.box(high)), numbers is not None)

    def test_kinds_of_the_root(self):
        self.check_walk("noun", "word", [0])
        self.check_walk("noun", "any", [0])
        self.check_walk("noun", "noun", [0])
        self.check_walk("word", "noun", None)
        self.check_walk("verb", "noun", None)

    def test_rooms(self):
        self.check_walk("triple[left:noun mid:verb right:noun]", "pair[right:word]", [0, 3])
        self.check_walk("triple[left:noun mid:verb right:noun]", "pair", [0])
        self.check_walk("pair[left:noun right:verb]", "pair[left:any right:verb]", [0, 1, 2])
        self.check_walk("pair[left:ring[on:ring[on:verb]]]", "pair[left:ring[on:ring]]", [0, 1, 2])

    def test_a_room_lacks(self):
        self.check_walk("pair[left:word]", "pair[left:word right:word]", None)
        self.check_walk("pair", "pair[left:any]", None)
        self.check_walk("ring[on:ring]", "ring[on:ring[on:any]]", None)

    def test_a_kind_is_not_below(self):
        self.check_walk("pair[left:word right:word]", "pair[left:word right:noun]", None)
        self.check_walk("pair[left:word right:word]", "triple[left:word right:word]", None)
        self.check_walk("ring[on:ring[on:any]]", "ring[on:ring[on:word]]", None)

    def test_less_is_shared(self):
        self.check_walk("pair[left:#1=word right:#1]", "pair[left:word right:word]", [0, 1, 1])
        self.check_walk("pair[left:#1=word right:#1]", "pair[left:#1=word right:#1]", [0, 1])
        self.check_walk("#1=ring[on:#1]", "ring[on:ring[on:any]]", [0, 0, 0])
        self.check_walk("#1=ring[on:ring[on:#1]]", "ring[on:ring[on:ring[on:ring]]]", [0, 1, 0, 1])

    def test_one_node_for_two_is_no_walk(self):
        self.check_walk("pair[left:word right:word]", "pair[left:#1=word right:#1]", None)
        self.check_walk("ring[on:ring[on:ring]]", "#1=ring[on:#1]", None)
        self.check_walk("ring[on:#1=ring[on:#1]]", "#1=ring[on:#1]", None)
        self.check_walk("#1=ring[on:#1]", "ring[on:#1=ring[on:#1]]", [0, 0])
        self.check_walk("#1=pair[left:pair[left:#1]]", "#1=pair[left:#1]", None)

    def test_rings_of_unlike_lengths(self):
        for one, other in itertools.product(range(1, 9), repeat=2):
            numbers = [at % one for at in range(other)] if other % one == 0 else None
            self.assertEqual(walk(self.kinds, self.ring(one), self.ring(other)), numbers)

    def test_shared_by_the_root(self):
        self.check_walk("#1=triple[left:noun mid:#1 right:verb]", "triple[mid:triple[mid:triple]]", [0, 0, 0])
        self.check_walk("triple[mid:#1=triple[mid:#1]]", "#1=triple[mid:#1]", None)

    def test_met_first_by_another_room_than_numbered_by(self):
        self.check_walk("triple[left:noun mid:ring[on:#1=verb] right:#1]", "triple[mid:ring[on:#1=word] right:#1]",
                        [0, 2, 3])
        self.check_walk("triple[left:noun mid:ring[on:verb] right:verb]", "triple[mid:ring[on:#1=word] right:#1]",
                        None)

    def test_each_box_lies_below_itself(self):
        for box in some_boxes(21, 100):
            self.assertEqual(walk(self.kinds, box, box), list(range(len(box))))
            self.assertIs(below(self.kinds, box, box), True)

    def test_by_words(self):
        chance = random.Random(22)
        found = 0
        for kinds, most in ((small_webs(), 3), (two_rooms(), 2)):
            boxes = all_boxes(kinds, most)
            for count in range(6000):
                low, high = chance.choice(boxes), chance.choice(boxes)
                walks = words.walks(kinds, low, high)
                self.assertLessEqual(len(walks), 1)
                self.assertEqual(walk(kinds, low, high), walks[0] if walks else None)
                self.assertIs(below(kinds, low, high), bool(walks))
                found += len(walks)
        self.assertGreater(found, 500)

    def test_below_goes_on(self):
        chance = random.Random(23)
        kinds = small_webs()
        boxes = all_boxes(kinds, 2)
        for count in range(3000):
            one, two, three = (chance.choice(boxes) for each in range(3))
            if below(kinds, one, two) and below(kinds, two, three):
                self.assertTrue(below(kinds, one, three))
            if below(kinds, one, two) and below(kinds, two, one):
                self.assertTrue(one == two)

    def test_the_list_is_new(self):
        box = self.box("pair[left:#1=word right:#1]")
        told = walk(self.kinds, box, box)
        self.assertIsInstance(told, list)
        told.append(7)
        self.assertEqual(walk(self.kinds, box, box), [0, 1])

    def test_very_many_nodes(self):
        chain = self.box("ring[on:" * 3000 + "noun" + "]" * 3000)
        less = self.box("ring[on:" * 2990 + "any" + "]" * 2990)
        self.assertEqual(walk(self.kinds, chain, less), list(range(2991)))
        self.assertIsNone(walk(self.kinds, less, chain))
        self.assertEqual(walk(self.kinds, self.ring(1), less), [0] * 2991)
        self.assertIsNone(walk(self.kinds, self.ring(1), chain))
        self.assertEqual(walk(self.kinds, self.ring(1), self.ring(3000)), [0] * 3000)

    def test_by_keyword_changes_nothing(self):
        low, high = self.box("pair[left:#1=word right:#1]"), self.box("pair[left:word right:word]")
        before = self.kinds.twin(), low.nodes(), high.nodes()
        self.assertEqual(walk(high=high, kinds=self.kinds, low=low), [0, 1, 1])
        self.assertIs(below(high=high, low=low, kinds=self.kinds), True)
        self.assertIs(below(low=high, high=low, kinds=self.kinds), False)
        self.assertTrue((self.kinds, low.nodes(), high.nodes()) == before)


class TestOver(BoxCase):
    def check_over(self, one, other, text):
        self.assertEqual(str(over(self.kinds, self.box(one), self.box(other))), text)
        self.assertEqual(str(over(self.kinds, self.box(other), self.box(one))), text)

    def test_kinds(self):
        self.check_over("noun", "verb", "word")
        self.check_over("noun", "noun", "noun")
        self.check_over("noun", "word", "word")
        self.check_over("noun", "ring", "any")
        self.check_over("triple", "pair", "pair")

    def test_rooms_of_both(self):
        self.check_over("pair[left:noun right:noun]", "pair[right:verb]", "pair[right:word]")
        self.check_over("pair[left:noun]", "pair[right:verb]", "pair")
        self.check_over("triple[left:noun mid:verb]", "pair[left:ring[on:any]]", "pair[left:any]")
        self.check_over("ring[on:ring[on:noun]]", "ring[on:ring[on:verb]]", "ring[on:ring[on:word]]")
        self.check_over("ring[on:noun]", "pair[left:noun]", "any")

    def test_shared_in_both_alone(self):
        self.check_over("pair[left:#1=noun right:#1]", "pair[left:#1=noun right:#1]", "pair[left:#1=noun right:#1]")
        self.check_over("pair[left:#1=noun right:#1]", "pair[left:noun right:noun]", "pair[left:noun right:noun]")
        self.check_over("triple[left:#1=noun mid:#1 right:#1]", "triple[left:verb mid:#1=noun right:#1]",
                        "triple[left:word mid:#1=noun right:#1]")
        self.check_over("triple[left:#1=noun mid:#1 right:verb]", "triple[left:verb mid:#1=noun right:#1]",
                        "triple[left:word mid:noun right:word]")

    def test_rings(self):
        self.check_over("#1=ring[on:#1]", "ring[on:ring[on:word]]", "ring[on:ring[on:any]]")
        self.check_over("#1=ring[on:#1]", "#1=ring[on:ring[on:#1]]", "#1=ring[on:ring[on:#1]]")
        self.check_over("#1=ring[on:#1]", "ring[on:#1=ring[on:#1]]", "ring[on:#1=ring[on:#1]]")
        self.check_over("#1=pair[left:ring[on:#1]]", "#1=pair[left:ring[on:#1] right:word]",
                        "#1=pair[left:ring[on:#1]]")

    def test_rings_of_unlike_lengths(self):
        for one, other, many in ((4, 6, 12), (2, 3, 6), (5, 5, 5), (1, 7, 7), (8, 2, 8)):
            self.assertTrue(over(self.kinds, self.ring(one), self.ring(other)) == self.ring(many))
        self.assertEqual(len(over(self.kinds, self.ring(39), self.ring(40))), 1560)
        self.assertTrue(over(self.kinds, self.ring(39), self.ring(40)) == self.ring(1560))

    def test_a_box_with_itself(self):
        for box in some_boxes(31, 100):
            self.assertTrue(over(self.kinds, box, box) == box)

    def test_both_lie_below_and_both_ways_about(self):
        chance = random.Random(32)
        boxes = some_boxes(33, 60)
        for count in range(400):
            one, other, third = (chance.choice(boxes) for each in range(3))
            told = over(self.kinds, one, other)
            self.assertIsInstance(told, Box)
            self.assertTrue(told == over(self.kinds, other, one))
            self.assertTrue(below(self.kinds, one, told) and below(self.kinds, other, told))
            self.assertTrue(fits(self.kinds, told))
            self.assertTrue(over(self.kinds, told, third) == over(self.kinds, one, over(self.kinds, other, third)))
            self.assertIs(told == other, below(self.kinds, one, other))

    def test_the_least_by_words(self):
        chance = random.Random(34)
        for kinds, most in ((small_webs(), 3), (two_rooms(), 2)):
            boxes = all_boxes(kinds, most)
            for count in range(60):
                one, other = chance.choice(boxes), chance.choice(boxes)
                told = over(kinds, one, other)
                self.assertTrue(words.walks(kinds, one, told) and words.walks(kinds, other, told))
                self.assertTrue(words.fits(kinds, told))
                for box in boxes:
                    if words.walks(kinds, one, box) and words.walks(kinds, other, box):
                        self.assertTrue(words.walks(kinds, told, box), (str(one), str(other), str(box)))

    def test_at_rest_where_both_are(self):
        chance = random.Random(35)
        resting = 0
        for turn in range(120):
            kinds = random_table(chance)
            boxes = [random_box(kinds, chance, chance.randint(1, 4)) for count in range(30)]
            boxes = [box for box in boxes if at_rest(kinds, box) and len(box) > 1]
            for one, other in itertools.combinations(boxes, 2):
                told = over(kinds, one, other)
                self.assertTrue(at_rest(kinds, told))
                self.assertTrue(fits(kinds, told))
                resting += len(told) > 1
        self.assertGreater(resting, 300)

    def test_very_many_nodes(self):
        one = self.box("ring[on:" * 3000 + "noun" + "]" * 3000)
        other = self.box("ring[on:" * 3000 + "verb" + "]" * 3000)
        self.assertEqual(str(over(self.kinds, one, other)), "ring[on:" * 3000 + "word" + "]" * 3000)

    def test_by_keyword_changes_nothing(self):
        one, other = self.box("pair[left:noun right:noun]"), self.box("pair[right:verb]")
        before = self.kinds.twin(), one.nodes(), other.nodes()
        self.assertEqual(str(over(other=other, kinds=self.kinds, one=one)), "pair[right:word]")
        self.assertTrue((self.kinds, one.nodes(), other.nodes()) == before)


class TestAtRest(BoxCase):
    def setUp(self):
        self.kinds = table(("word", "any", ""), ("noun", "word", ""), ("hold", "any", "in:any out:any"),
                           ("tight", "hold", ""), ("pair", "any", "left:any right:any"), ("ring", "any", "on:any"))

    def must(self, text):
        self.kinds.must(self.box(text).kind(), self.box(text))

    def check_rest(self, text, answer):
        self.assertIs(at_rest(self.kinds, self.box(text)), answer, text)

    def test_without_musts(self):
        for text in ("word", "hold", "#1=ring[on:#1]", "any"):
            self.check_rest(text, True)

    def test_a_must_of_the_own_kind(self):
        self.must("hold[in:word]")
        self.check_rest("hold[in:word]", True)
        self.check_rest("hold[in:noun out:any]", True)
        self.check_rest("hold", False)
        self.check_rest("hold[in:any]", False)
        self.check_rest("hold[out:word]", False)
        self.check_rest("word", True)

    def test_a_must_of_a_kind_above(self):
        self.must("hold[in:word]")
        self.check_rest("tight", False)
        self.check_rest("tight[in:noun]", True)
        self.must("tight[out:noun]")
        self.check_rest("tight[in:noun]", False)
        self.check_rest("tight[in:noun out:noun]", True)
        self.check_rest("tight[out:noun]", False)
        self.check_rest("hold[in:noun]", True)

    def test_a_must_of_a_kind_below_asks_nothing(self):
        self.must("tight[out:noun]")
        self.check_rest("hold", True)
        self.check_rest("hold[out:any]", True)

    def test_a_must_of_any(self):
        self.must("any")
        self.check_rest("hold[in:any]", True)

    def test_behind_rooms(self):
        self.must("hold[in:word]")
        self.check_rest("ring[on:hold[in:word]]", True)
        self.check_rest("ring[on:hold]", False)
        self.check_rest("pair[left:hold[in:word] right:ring[on:tight[in:any]]]", False)
        self.check_rest("pair[left:ring[on:tight[in:noun]] right:hold[in:word]]", True)
        self.check_rest("hold[in:noun out:hold]", False)

    def test_shared_rooms_in_the_must(self):
        self.must("hold[in:#1=word out:#1]")
        self.check_rest("hold[in:word out:word]", False)
        self.check_rest("hold[in:#1=noun out:#1]", True)
        self.check_rest("pair[left:hold[in:#1=noun out:#1] right:#1]", True)
        self.check_rest("pair[left:hold[in:#1=noun out:noun] right:#1]", False)

    def test_rings_in_the_must(self):
        self.must("#1=ring[on:#1]")
        self.check_rest("#1=ring[on:#1]", True)
        self.check_rest("#1=ring[on:ring[on:#1]]", False)
        self.check_rest("ring[on:#1=ring[on:#1]]", False)
        self.check_rest("ring", False)
        self.must("hold[in:#1=pair[left:#1]]")
        self.check_rest("hold[in:#1=pair[left:#1 right:#1]]", True)
        self.check_rest("hold[in:pair[left:#1=pair[left:#1]]]", False)

    def test_a_must_round_by_the_node(self):
        self.must("#1=pair[left:ring[on:#1]]")
        self.check_rest("#1=pair[left:ring[on:#1]]", True)
        self.check_rest("ring[on:#1=pair[left:ring[on:#1]]]", True)
        self.check_rest("#1=ring[on:pair[left:#1]]", True)
        self.check_rest("#1=ring[on:pair[left:#1 right:pair[left:#1]]]", False)

    def test_by_words(self):
        chance = random.Random(41)
        answers = {True: 0, False: 0}
        for turn in range(60):
            kinds = random_table(chance)
            for count in range(20):
                box = random_box(kinds, chance, chance.randint(2, 4))
                answer = at_rest(kinds, box)
                self.assertIs(answer, words.at_rest(kinds, box, words.walks))
                answers[answer] += 1
        self.assertGreater(min(answers.values()), 200)

    def test_behind_free(self):
        self.must("hold[in:word]")
        self.check_rest("hold", False)
        self.kinds.free("hold")
        self.check_rest("hold", True)

    def test_very_many_nodes(self):
        self.must("hold[in:word]")
        for last, answer in (("hold", False), ("hold[in:word]", True)):
            self.check_rest("ring[on:" * 3000 + last + "]" * 3000, answer)

    def test_by_keyword_changes_nothing(self):
        self.must("hold[in:word]")
        box = self.box("ring[on:hold]")
        before = self.kinds.twin(), box.nodes()
        self.assertIs(at_rest(box=box, kinds=self.kinds), False)
        self.assertTrue((self.kinds, box.nodes()) == before)

    def test_of_the_table_that_is_handed_in(self):
        self.must("hold[in:word]")
        other = self.kinds.twin()
        other.free("hold")
        self.assertIs(at_rest(other, self.box("hold")), True)
        self.assertIs(at_rest(self.kinds, self.box("hold")), False)
        self.assertIs(at_rest(Kinds(), built(Kinds(), [("any", [])])), True)


if __name__ == "__main__":
    unittest.main()
