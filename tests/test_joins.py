import itertools
import random
import unittest

from tests import words
from tests.tables import all_boxes, random_box, random_table, rich_table, small_table, table
from traitmere.boxes import Box, built, fits
from traitmere.joins import join, join_all, rest
from traitmere.kinds import Kinds
from traitmere.texts import read
from traitmere.walks import at_rest, below


class JoinCase(unittest.TestCase):
    """Joins of boxes that are told by their texts, in a table."""

    def box(self, text):
        return read(self.kinds, text)

    def check_join(self, one, other, text):
        self.check_all([one, other], text)
        for first, second in ((one, other), (other, one)):
            self.assert_told(join(self.kinds, self.box(first), self.box(second)), text)

    def check_all(self, texts, text):
        """In each order, and with each box twice."""
        for order in itertools.permutations(texts):
            self.assert_told(join_all(self.kinds, [self.box(each) for each in order]), text)
            self.assert_told(join_all(self.kinds, [self.box(each) for each in order + order]), text)

    def check_rest(self, one, text):
        self.assert_told(rest(self.kinds, self.box(one)), text)
        self.check_join(one, one, text)
        self.assert_told(join_all(self.kinds, [self.box(one)]), text)

    def assert_told(self, told, text):
        self.assertEqual(None if told is None else str(told), text)
        if told is not None:
            self.assertIsInstance(told, Box)
            self.assertTrue(fits(self.kinds, told) and at_rest(self.kinds, told))


class TestKindsAndRooms(JoinCase):
    def setUp(self):
        self.kinds = table(
            ("thing", "any", ""), ("live", "thing", ""), ("red", "thing", ""), ("carp", "live red", ""),
            ("big", "thing", ""), ("holder", "any", "in:thing out:any"), ("tank", "holder", "in:live"),
            ("case", "holder", "in:red"), ("vase", "tank case", ""), ("lidded", "any", "lid:any"),
            ("jar", "holder lidded", "out:tank"), ("loop", "any", "on:any"), ("fast", "loop", ""),
            ("tight", "loop", "on:fast"))

    def test_kinds_that_have_a_low(self):
        self.check_join("live", "red", "carp")
        self.check_join("live", "thing", "live")
        self.check_join("any", "carp", "carp")
        self.check_join("tank", "case", "vase")
        self.check_join("live", "live", "live")

    def test_kinds_that_have_none(self):
        self.check_join("live", "big", None)
        self.check_join("thing", "holder", None)
        self.check_join("jar", "vase", None)
        self.check_join("holder[out:live]", "holder[out:big]", None)
        self.check_join("loop[on:loop[on:live]]", "loop[on:loop[on:big]]", None)

    def test_rooms_that_one_of_both_has(self):
        self.check_join("holder[in:live]", "holder[out:big]", "holder[in:live out:big]")
        self.check_join("holder", "holder[out:big]", "holder[out:big]")
        self.check_join("holder[in:live]", "lidded[lid:big]", "jar[in:live lid:big]")
        self.check_join("holder[in:live out:loop[on:red]]", "holder[in:red out:loop]",
                        "holder[in:carp out:loop[on:red]]")
        self.check_join("any", "holder[in:live]", "holder[in:live]")

    def test_no_rooms_are_made(self):
        self.check_join("holder", "vase", "vase")
        self.check_join("tank", "case", "vase")

    def test_what_is_let_by_the_kind_that_comes_of_it(self):
        self.check_join("tank[in:live]", "case[in:red]", "vase[in:carp]")
        self.check_join("holder[in:thing]", "vase", "vase[in:carp]")
        self.check_join("holder[in:thing]", "tank", "tank[in:live]")
        self.check_join("holder[in:big]", "tank", None)
        self.check_join("holder[in:big]", "vase", None)
        self.check_join("holder[out:any]", "lidded", "jar[out:tank]")

    def test_what_is_let_goes_on_from_room_to_room(self):
        self.check_join("holder[out:holder[in:red]]", "lidded", "jar[out:tank[in:carp]]")
        self.check_join("holder[out:case[in:red]]", "lidded", "jar[out:vase[in:carp]]")
        self.check_join("holder[out:holder[in:big]]", "lidded", None)
        self.check_join("holder[out:holder]", "lidded[lid:live]", "jar[lid:live out:tank]")

    def test_what_is_let_goes_on_through_many_rooms(self):
        self.kinds = table(("ring", "any", "on:any"), *[(f"r{at}", "ring", f"on:{let}") for at, let in (
            ("f", "ring"), ("e", "rf"), ("d", "re"), ("c", "rd"), ("b", "rc"), ("a", "rb"))])
        lower = "ra[on:rb[on:rc[on:rd[on:re[on:rf]]]]]"
        self.check_join("ra", "ring[on:ring[on:ring[on:ring[on:ring[on:ring]]]]]", lower)
        self.check_join("ra", "ring[on:ring[on:ring[on:ring[on:ring[on:re]]]]]", None)
        self.check_all(["ra[on:rb]", "ring[on:ring[on:ring]]", lower], lower)

    def test_shared_rooms(self):
        self.check_join("holder[in:#1=thing out:#1]", "tank", "tank[in:#1=live out:#1]")
        self.check_join("holder[in:#1=thing out:#1]", "holder[in:red out:live]", "holder[in:#1=carp out:#1]")
        self.check_join("holder[in:#1=thing out:#1]", "holder[in:big out:live]", None)
        self.check_join("holder[in:#1=live out:#1]", "holder[in:#1=red out:#1]", "holder[in:#1=carp out:#1]")

    def test_shared_rooms_of_both_at_once(self):
        self.kinds.put("triple", rooms=[("a", "any"), ("b", "any"), ("c", "any")])
        self.check_join("triple[a:#1=live b:#1]", "triple[b:#1=any c:#1]", "triple[a:#1=live b:#1 c:#1]")
        self.check_join("triple[a:#1=live b:#1]", "triple[b:#1=big c:#1]", None)
        self.check_join("triple[a:#1=live b:#1 c:#2=triple[a:#2]]", "triple[a:live b:red c:triple[b:red]]",
                        "triple[a:#1=carp b:#1 c:#2=triple[a:#2 b:red]]")
        self.check_join("triple[a:#1=loop b:#1]", "triple[a:loop[on:live] b:loop[on:red]]",
                        "triple[a:#1=loop[on:carp] b:#1]")
        self.check_join("triple[a:#1=loop b:#1]", "triple[a:loop[on:live] b:loop[on:big]]", None)

    def test_rings(self):
        self.check_join("#1=loop[on:#1]", "loop[on:fast]", "#1=fast[on:#1]")
        self.check_join("#1=loop[on:#1]", "loop[on:loop[on:fast]]", "#1=fast[on:#1]")
        self.check_join("#1=loop[on:#1]", "loop[on:live]", None)
        self.check_join("#1=loop[on:loop[on:#1]]", "loop[on:fast[on:any]]", "#1=loop[on:fast[on:#1]]")
        self.check_join("loop[on:#1=loop[on:#1]]", "#1=loop[on:loop[on:#1]]", "#1=loop[on:#1]")
        self.check_join("loop[on:loop[on:#1=loop[on:#1]]]", "loop[on:loop[on:loop[on:loop[on:fast]]]]",
                        "loop[on:loop[on:#1=fast[on:#1]]]")

    def test_what_is_let_goes_round(self):
        self.check_join("#1=loop[on:#1]", "tight", None)
        self.check_join("#1=loop[on:loop[on:#1]]", "tight", "#1=tight[on:fast[on:#1]]")
        self.kinds.put("whirl", ["tight", "fast"])
        self.check_join("#1=loop[on:#1]", "tight", "#1=whirl[on:#1]")
        self.check_join("#1=loop[on:loop[on:#1]]", "loop[on:tight]", "#1=fast[on:tight[on:#1]]")

    def test_rings_of_unlike_lengths(self):
        kinds = self.kinds
        rings = {many: self.box("#1=loop[on:" + "loop[on:" * (many - 1) + "#1" + "]" * many) for many in range(1, 13)}
        for one, other, many in ((4, 6, 2), (6, 9, 3), (5, 7, 1), (8, 8, 8), (12, 8, 4), (3, 12, 3), (1, 9, 1)):
            self.assertTrue(join(kinds, rings[one], rings[other]) == rings[many])
        self.assertTrue(join_all(kinds, [rings[12], rings[8], rings[6]]) == rings[2])
        marked = self.box("loop[on:loop[on:loop[on:fast]]]")
        self.assertEqual(str(join(kinds, rings[2], marked)), "#1=loop[on:fast[on:#1]]")

    def test_the_root_in_its_own_room(self):
        self.check_join("#1=holder[out:#1]", "holder[in:live out:case]", "#1=case[in:carp out:#1]")
        self.check_join("#1=holder[out:#1]", "tank[out:case]", "#1=vase[out:#1]")

    def test_several(self):
        self.check_all(["holder[in:#1=thing out:#1]", "tank", "case[out:any]"], "vase[in:#1=carp out:#1]")
        self.check_all(["tank", "case", "lidded"], None)
        self.check_all(["live"], "live")


class TestMusts(JoinCase):
    def setUp(self):
        self.kinds = table(
            ("word", "any", ""), ("noun", "word", ""), ("verb", "word", ""), ("hold", "any", "in:any out:any"),
            ("tight", "hold", ""), ("open", "hold", ""), ("both", "tight open", ""),
            ("pair", "any", "left:any right:any"), ("ring", "any", "on:any"))

    def must(self, *texts):
        for text in texts:
            self.kinds.must(self.box(text).kind(), self.box(text))

    def test_rest_without_musts(self):
        for text in ("word", "hold[in:#1=any out:#1]", "#1=ring[on:#1]"):
            self.check_rest(text, text)

    def test_a_must_of_the_own_kind_and_of_kinds_above(self):
        self.must("hold[in:word]", "tight[out:noun]")
        self.check_rest("hold", "hold[in:word]")
        self.check_rest("hold[in:any]", "hold[in:word]")
        self.check_rest("hold[in:verb out:any]", "hold[in:verb out:any]")
        self.check_rest("tight", "tight[in:word out:noun]")
        self.check_rest("tight[in:#1=any out:#1]", "tight[in:#1=noun out:#1]")
        self.check_rest("open", "open[in:word]")
        self.check_rest("pair", "pair")

    def test_no_rest(self):
        self.must("hold[in:word]", "tight[out:noun]")
        self.check_rest("hold[in:pair]", None)
        self.check_rest("tight[out:verb]", None)
        self.check_rest("tight[in:#1=verb out:#1]", None)
        self.check_rest("hold[out:verb]", "hold[in:word out:verb]")
        self.check_join("hold[out:verb]", "tight", None)

    def test_behind_rooms(self):
        self.must("hold[in:word]")
        self.check_rest("ring[on:hold]", "ring[on:hold[in:word]]")
        self.check_rest("pair[left:hold right:hold]", "pair[left:hold[in:word] right:hold[in:word]]")
        self.check_rest("pair[left:#1=hold right:#1]", "pair[left:#1=hold[in:word] right:#1]")
        self.check_rest("#1=ring[on:pair[left:hold[out:#1]]]", "#1=ring[on:pair[left:hold[in:word out:#1]]]")
        self.check_rest("ring[on:ring[on:hold[in:ring]]]", None)

    def test_musts_that_come_by_joining(self):
        self.must("both[in:#1=word out:#1]")
        self.check_join("tight", "open", "both[in:#1=word out:#1]")
        self.check_join("tight[in:noun]", "open", "both[in:#1=noun out:#1]")
        self.check_join("tight[in:noun]", "open[out:verb]", None)
        self.check_join("ring[on:tight[in:noun]]", "ring[on:open]", "ring[on:both[in:#1=noun out:#1]]")
        self.check_all(["tight", "open", "hold[in:noun]"], "both[in:#1=noun out:#1]")

    def test_musts_that_bring_further_musts(self):
        self.must("ring[on:pair[left:hold]]", "pair[right:hold[in:verb]]", "hold[out:word]")
        self.check_rest("ring", "ring[on:pair[left:hold[out:word] right:hold[in:verb out:word]]]")
        self.check_rest("ring[on:pair[left:#1=any right:#1]]",
                        "ring[on:pair[left:#1=hold[in:verb out:word] right:#1]]")
        self.check_rest("ring[on:pair[left:hold[in:noun]]]",
                        "ring[on:pair[left:hold[in:noun out:word] right:hold[in:verb out:word]]]")
        self.check_rest("ring[on:pair[left:#1=hold[in:noun] right:#1]]", None)

    def test_a_must_lowers_to_a_kind_with_a_must(self):
        self.must("ring[on:tight]", "open[in:noun]")
        self.check_rest("ring[on:open]", "ring[on:both[in:noun]]")
        self.check_rest("ring[on:open[in:verb]]", None)
        self.check_join("ring", "ring[on:open]", "ring[on:both[in:noun]]")

    def test_a_must_of_a_kind_above_that_lets_more(self):
        self.kinds.put("strict", ["hold"], rooms=[("in", "noun")])
        self.kinds.put("deep", ["strict", "tight"], rooms=[("out", "strict")])
        self.must("hold[in:word]")
        self.check_rest("strict", "strict[in:noun]")
        self.check_rest("deep", "deep[in:noun]")
        self.check_rest("deep[out:strict]", "deep[in:noun out:strict[in:noun]]")
        self.check_join("hold[out:hold]", "deep", "deep[in:noun out:strict[in:noun]]")

    def test_musts_wake_all_along(self):
        self.kinds.put("chain", rooms=[("next", "any"), ("mark", "any")])
        for name, let in (("ce", "any"), ("cd", "ce"), ("cc", "cd"), ("cb", "cc")):
            self.kinds.put(name, ["chain"], rooms=[("next", let)])
        self.must("ce[mark:noun]", "cd[mark:verb]", "cc[mark:word]")
        self.check_join("chain[next:chain[next:chain[next:chain]]]", "cb",
                        "cb[next:cc[mark:word next:cd[mark:verb next:ce[mark:noun]]]]")

    def test_rings_in_the_must(self):
        self.must("#1=ring[on:#1]", "hold[in:#1=pair[left:#1]]")
        self.check_rest("ring", "#1=ring[on:#1]")
        self.check_rest("ring[on:ring[on:ring]]", "#1=ring[on:#1]")
        self.check_rest("#1=ring[on:ring[on:ring[on:#1]]]", "#1=ring[on:#1]")
        self.check_rest("ring[on:word]", None)
        self.check_rest("hold", "hold[in:#1=pair[left:#1]]")
        self.check_rest("hold[in:pair[left:pair[right:noun]]]", "hold[in:#1=pair[left:#1 right:noun]]")
        self.check_rest("hold[in:#1=pair out:#1]", "hold[in:#1=pair[left:#1] out:#1]")

    def test_a_must_round_by_the_node(self):
        self.must("#1=pair[left:ring[on:#1]]")
        self.check_rest("pair", "#1=pair[left:ring[on:#1]]")
        self.check_rest("pair[left:ring[on:pair[right:noun]]]", "#1=pair[left:ring[on:#1] right:noun]")
        self.check_rest("pair[left:word]", None)

    def test_shared_rooms_and_rings_of_boxes_and_musts_at_once(self):
        self.must("hold[in:#1=ring out:#1]")
        self.check_join("hold[in:ring[on:noun]]", "hold[out:ring[on:any]]", "hold[in:#1=ring[on:noun] out:#1]")
        self.check_join("#1=hold[in:ring[on:#1]]", "hold[out:ring[on:hold]]", "#1=hold[in:#2=ring[on:#1] out:#2]")
        self.check_join("hold[in:ring[on:noun]]", "hold[out:ring[on:verb]]", None)
        self.check_join("hold[in:#1=ring[on:#1]]", "hold[out:ring[on:ring[on:ring]]]",
                        "hold[in:#1=ring[on:#1] out:#1]")

    def test_what_is_let_wakes_a_must(self):
        self.kinds.put("strict", ["ring"], rooms=[("on", "tight")])
        self.must("tight[in:noun]")
        self.check_join("ring[on:hold]", "strict", "strict[on:tight[in:noun]]")
        self.check_join("ring[on:hold[in:verb]]", "strict", None)
        self.check_join("ring[on:hold[in:verb]]", "ring", "ring[on:hold[in:verb]]")

    def test_behind_free(self):
        self.must("hold[in:word]")
        self.kinds.free("hold")
        self.check_rest("hold", "hold")


class TestByWords(unittest.TestCase):
    """Point [11] word for word, by all boxes of few nodes."""

    def test_the_greatest(self):
        rows = (("a", "any", "r:any"), ("b", "a", ""), ("c", "a", "r:a"), ("d", "b c", "r:b"), ("e", "any", ""))
        for musts in ((), ("b[r:e]",), ("#1=c[r:#1]", "#1=b[r:#1]"), ("#1=d[r:#1]", "e")):
            self.check_greatest(table(*rows, musts=musts), 3)

    def test_the_greatest_with_two_rooms(self):
        rows = (("a", "any", "r:any s:any"), ("b", "a", "r:a"), ("e", "any", ""), ("f", "a e", ""))
        for musts in ((), ("b[r:#1=f s:#1]",), ("b[s:e]", "#1=f[s:#1]")):
            self.check_greatest(table(*rows, musts=musts), 2)

    def check_greatest(self, kinds, most):
        chance = random.Random(51)
        boxes = all_boxes(kinds, most)
        resting = [box for box in boxes if words.at_rest(kinds, box, words.walks)]
        nones = 0
        for count in range(80):
            one, other = chance.choice(boxes), chance.choice(boxes)
            told = join(kinds, one, other)
            under = [box for box in resting if words.walks(kinds, box, one) and words.walks(kinds, box, other)]
            if told is None:
                nones += 1
                self.assertEqual([str(box) for box in under], [])
            else:
                self.check_told(kinds, [one, other], told)
                for box in under:
                    self.assertTrue(words.walks(kinds, box, told), (str(one), str(other), str(box)))
        self.assertTrue(3 < nones < 77, nones)

    def check_told(self, kinds, boxes, told):
        self.assertTrue(words.fits(kinds, told))
        self.assertTrue(words.at_rest(kinds, told, below))
        for box in boxes:
            self.assertTrue(below(kinds, told, box))

    def test_random_tables(self):
        chance = random.Random(52)
        joined = 0
        for turn in range(150):
            kinds = random_table(chance)
            boxes = [random_box(kinds, chance, chance.randint(1, 6)) for count in range(8)]
            for count in range(12):
                one, other, third = (chance.choice(boxes) for each in range(3))
                told, lower = join(kinds, one, other), join_all(kinds, [third, other, one])
                if told is None:
                    self.assertIsNone(lower)
                else:
                    joined += len(told) > 1
                    self.check_told(kinds, [one, other], told)
                if lower is not None:
                    self.check_told(kinds, [one, other, third, told], lower)
        self.assertGreater(joined, 200)

    def test_much_at_once(self):
        chance = random.Random(54)
        kinds = rich_table()
        joined = nones = 0
        for count in range(600):
            boxes = [random_box(kinds, chance, chance.randint(2, 6), root, 0.4)
                     for root in chance.choices(["web", "red", "blue"], k=2)]
            told = join_all(kinds, boxes)
            if told is None:
                nones += 1
            else:
                joined += len(told) > 1
                self.check_told(kinds, boxes, told)
        self.assertGreater(min(joined, nones), 100)

    def test_below_is_joined_to_the_lower_one(self):
        chance = random.Random(53)
        for turn in range(100):
            kinds = random_table(chance)
            boxes = [rest(kinds, random_box(kinds, chance, chance.randint(1, 6))) for count in range(8)]
            for one, other in itertools.product([box for box in boxes if box is not None], repeat=2):
                self.assertIs(join(kinds, one, other) == one, below(kinds, one, other))


class TestOrders(unittest.TestCase):
    """In whatever order and bracketing, also some of them twice: what comes is alike, or None."""

    def join(self, kinds, one, other):
        return None if one is None or other is None else join(kinds, one, other)

    def check_orders(self, kinds, boxes):
        alike = join_all(kinds, boxes)
        for one, two, three in itertools.permutations(boxes):
            for told in (self.join(kinds, self.join(kinds, one, two), three),
                         self.join(kinds, one, self.join(kinds, two, three)),
                         self.join(kinds, self.join(kinds, one, two), self.join(kinds, three, two)),
                         self.join(kinds, self.join(kinds, one, self.join(kinds, one, two)), three),
                         self.join(kinds, rest(kinds, one), self.join(kinds, three, two)),
                         join_all(kinds, [one, two, three]), join_all(kinds, (three, one, one, two, three))):
                self.assertTrue(told == alike, [str(box) for box in boxes])
        return alike

    def test_random_tables(self):
        chance = random.Random(61)
        joined = 0
        for turn in range(120):
            kinds = random_table(chance)
            for count in range(4):
                boxes = [random_box(kinds, chance, chance.randint(1, 6)) for each in range(3)]
                alike = self.check_orders(kinds, boxes)
                joined += alike is not None and len(alike) > 1
        self.assertGreater(joined, 30)

    def test_much_at_once(self):
        chance = random.Random(62)
        kinds = rich_table()
        joined = nones = 0
        for count in range(300):
            boxes = [random_box(kinds, chance, chance.randint(2, 6), root, 0.4)
                     for root in chance.choices(["web", "red", "blue"], k=3)]
            alike = self.check_orders(kinds, boxes)
            joined += alike is not None and len(alike) > 1
            nones += alike is None
        self.assertGreater(min(joined, nones), 50)

    def test_five_boxes(self):
        kinds = table(("web", "any", "a:any b:any c:any"), ("leaf", "any", ""), musts=("leaf",))
        texts = ("web[a:#1=any b:#1]", "web[b:#1=any c:#1]", "#1=web[a:web[a:#1]]", "web[c:web[c:web[b:leaf]]]",
                 "web[a:web[a:web[a:web]]]")
        boxes = [read(kinds, text) for text in texts]
        for order in itertools.permutations(boxes):
            self.assertEqual(str(join_all(kinds, order)), str(join_all(kinds, boxes)))
        self.assertEqual(str(join_all(kinds, boxes)), str(self.join(kinds, join_all(kinds, boxes[:2]),
                                                                     join_all(kinds, boxes[2:]))))


class TestManyNodes(JoinCase):
    def test_more_than_forty_by_joining(self):
        self.kinds = table(("word", "any", ""), ("pair", "any", "left:any right:any"), ("ring", "any", "on:any"))
        inner = "ring[on:" * 38 + "word" + "]" * 38
        boxes = [built(self.kinds, self.box(f"pair[{room}:{inner}]").nodes()) for room in ("left", "right")]
        told = join_all(self.kinds, boxes)
        self.assertEqual((len(boxes[0]), len(told)), (40, 79))
        self.assertEqual(str(told), f"pair[left:{inner} right:{inner}]")
        again = join(self.kinds, told, self.box("pair[left:#1=any right:#1]"))
        self.assertEqual(str(again), f"pair[left:#1={inner} right:#1]")
        self.assertTrue(below(self.kinds, again, told) and not below(self.kinds, told, again))
        self.assertTrue(join(self.kinds, told, again) == again)

    def test_more_than_forty_by_musts(self):
        rows = [("tree", "any", "l:any r:any")] + [(f"t{at}", "tree", "") for at in "abcdef"] + [("leaf", "any", "")]
        musts = [f"t{at}[l:t{more} r:t{more}]" for at, more in zip("abcde", "bcdef")]
        self.kinds = table(*rows, musts=musts)
        told = rest(self.kinds, self.box("ta"))
        self.assertEqual(len(told), 63)
        self.assertTrue(at_rest(self.kinds, told) and fits(self.kinds, told))
        self.assertTrue(self.box(str(told)) == told)
        self.assertEqual(str(rest(self.kinds, self.box("ta[l:#1=any r:#1]"))).count("tb"), 1)
        self.assertIsNone(join(self.kinds, told, self.box("tree[l:tree[l:leaf]]")))
        marked = join(self.kinds, told, self.box("tree[l:tree[r:tree[r:any]]]"))
        self.assertTrue(marked == told)

    def test_very_many_nodes(self):
        self.kinds = small_table()
        self.kinds.must("ring", self.box("ring"))
        one = self.box("ring[on:" * 3000 + "noun" + "]" * 3000)
        other = self.box("ring[on:" * 2000 + "any" + "]" * 2000)
        self.assertTrue(join(self.kinds, one, other) == one)
        self.assertTrue(rest(self.kinds, one) == one)
        self.assertIsNone(join(self.kinds, one, self.box("ring[on:" * 3000 + "verb" + "]" * 3000)))
        self.assertIsNone(join(self.kinds, one, self.box("#1=ring[on:ring[on:#1]]")))


class TestHandedIn(JoinCase):
    def setUp(self):
        self.kinds = table(("word", "any", ""), ("noun", "word", ""), ("hold", "any", "in:any out:any"),
                           musts=("hold[in:word]",))

    def test_nothing_is_changed(self):
        boxes = [self.box("hold[in:noun]"), self.box("hold[in:#1=any out:#1]"), self.box("hold")]
        before = [box.nodes() for box in boxes]
        table_before = self.kinds.twin()
        handed = list(boxes)
        told = join_all(self.kinds, handed)
        self.assertEqual(str(told), "hold[in:#1=noun out:#1]")
        join(self.kinds, boxes[0], boxes[1])
        rest(self.kinds, boxes[2])
        self.assertIsNone(join(self.kinds, boxes[0], self.box("word")))
        self.assertEqual([box.nodes() for box in handed], before)
        self.assertEqual(len(handed), 3)
        self.assertTrue(self.kinds == table_before)
        self.assertEqual(str(self.kinds.must_of("hold")), "hold[in:word]")

    def test_what_is_told_stays_as_the_table_changes(self):
        told = rest(self.kinds, self.box("hold"))
        self.kinds.free("hold")
        self.kinds.put("new", ["noun"])
        self.assertEqual(str(told), "hold[in:word]")
        self.assertEqual(str(rest(self.kinds, self.box("hold"))), "hold")

    def test_lists_and_tuples_alike(self):
        boxes = [self.box("hold[in:noun]"), self.box("hold[out:any]")]
        self.assertTrue(join_all(self.kinds, boxes) == join_all(self.kinds, tuple(boxes)))

    def test_by_keyword(self):
        one, other = self.box("hold[in:noun]"), self.box("hold[out:word]")
        text = "hold[in:noun out:word]"
        self.assertEqual(str(join(other=other, kinds=self.kinds, one=one)), text)
        self.assertEqual(str(join_all(boxes=(one, other), kinds=self.kinds)), text)
        self.assertEqual(str(rest(box=other, kinds=self.kinds)), "hold[in:word out:word]")

    def test_tables_apart(self):
        other = Kinds()
        self.assertEqual(str(rest(other, built(other, [("any", [])]))), "any")
        twin = self.kinds.twin()
        twin.free("hold")
        self.assertEqual(str(rest(twin, self.box("hold"))), "hold")
        self.assertEqual(str(rest(self.kinds, self.box("hold"))), "hold[in:word]")


if __name__ == "__main__":
    unittest.main()
