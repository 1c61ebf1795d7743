import unittest

from tests.tables import refused, small_table, some_boxes
from traitmere.boxes import Box, built, fits
from traitmere.errors import BadNodes, NoKind, NoRoom, Twice, Unfit
from traitmere.kinds import Kinds
from traitmere.texts import read, written


def met_first(nodes):
    """The numbering of point [8], word for word: a second way to it, for boxes of few nodes."""
    order = []

    def meet(at):
        if at in order:
            return
        order.append(at)
        for room, there in sorted(nodes[at][1]):
            meet(there)

    meet(0)
    return [(nodes[at][0], [(room, order.index(there)) for room, there in sorted(nodes[at][1])]) for at in order]


def chain_nodes(many):
    return [("ring", [("on", at + 1)]) for at in range(many - 1)] + [("word", [])]


class TestBuilt(unittest.TestCase):
    def setUp(self):
        self.kinds = small_table()

    def test_one_node(self):
        box = built(self.kinds, [("word", [])])
        self.assertIsInstance(box, Box)
        self.assertEqual(box.nodes(), [("word", [])])

    def test_any_is_a_kind_of_nodes(self):
        self.assertEqual(built(self.kinds, [("any", [])]).nodes(), [("any", [])])

    def test_shared_room(self):
        box = built(self.kinds, [("pair", [("left", 1), ("right", 1)]), ("word", [])])
        self.assertEqual(box.nodes(), [("pair", [("left", 1), ("right", 1)]), ("word", [])])

    def test_numbered_as_met(self):
        nodes = [("triple", [("right", 1), ("mid", 2), ("left", 3)]), ("noun", []), ("ring", [("on", 4)]),
                 ("verb", []), ("word", [])]
        self.assertEqual(built(self.kinds, nodes).nodes(), [
            ("triple", [("left", 1), ("mid", 2), ("right", 4)]), ("verb", []), ("ring", [("on", 3)]), ("word", []),
            ("noun", [])])

    def test_all_behind_a_room_goes_ahead_of_the_next_room(self):
        nodes = [("pair", [("left", 1), ("right", 2)]), ("ring", [("on", 3)]), ("noun", []), ("ring", [("on", 2)])]
        self.assertEqual(built(self.kinds, nodes).nodes(), [
            ("pair", [("left", 1), ("right", 3)]), ("ring", [("on", 2)]), ("ring", [("on", 3)]), ("noun", [])])

    def test_numbered_in_whatever_order(self):
        for at, box in enumerate(some_boxes(1, 200)):
            nodes = box.nodes()
            size = len(nodes)
            new = [0] + [1 + (spot + at) % (size - 1) for spot in range(size - 1)] if size > 1 else [0]
            mixed = [None] * size
            for number, (kind, pairs) in enumerate(nodes):
                mixed[new[number]] = (kind, [(room, new[there]) for room, there in pairs[::-1]])
            again = built(self.kinds, mixed)
            self.assertEqual(again.nodes(), nodes)
            self.assertEqual(again.nodes(), met_first(mixed))
            self.assertTrue(again == box)

    def test_ring_of_one_node(self):
        self.assertEqual(built(self.kinds, [("ring", [("on", 0)])]).nodes(), [("ring", [("on", 0)])])

    def test_ring_through_the_root(self):
        nodes = [("ring", [("on", 2)]), ("ring", [("on", 0)]), ("ring", [("on", 1)])]
        self.assertEqual(built(self.kinds, nodes).nodes(), [
            ("ring", [("on", 1)]), ("ring", [("on", 2)]), ("ring", [("on", 0)])])

    def test_ring_beside_the_root(self):
        nodes = [("pair", [("left", 2)]), ("ring", [("on", 2)]), ("ring", [("on", 1)])]
        self.assertEqual(built(self.kinds, nodes).nodes(), [
            ("pair", [("left", 1)]), ("ring", [("on", 2)]), ("ring", [("on", 1)])])

    def test_nodes_without_a_way_are_left_out(self):
        nodes = [("ring", [("on", 3)]), ("pair", [("left", 0), ("right", 2)]), ("word", []), ("verb", [])]
        self.assertEqual(built(self.kinds, nodes).nodes(), [("ring", [("on", 1)]), ("verb", [])])

    def test_nodes_without_a_way_are_looked_at_all_the_same(self):
        self.assertEqual(refused(self, NoKind, built, self.kinds, [("word", []), ("none", [])]).name, "none")
        refused(self, Unfit, built, self.kinds, [("word", []), ("pair", [("right", 1)])])

    def test_how_many(self):
        self.assertEqual(refused(self, BadNodes, built, self.kinds, []).at, 0)
        self.assertEqual(refused(self, BadNodes, built, self.kinds, ()).at, 0)
        self.assertEqual(len(built(self.kinds, chain_nodes(40))), 40)
        self.assertEqual(refused(self, BadNodes, built, self.kinds, chain_nodes(41)).at, 41)
        self.assertEqual(refused(self, BadNodes, built, self.kinds, [("none", [])] * 50).at, 50)

    def test_no_kind(self):
        self.assertEqual(refused(self, NoKind, built, self.kinds, [("none", [("on", 9)])]).name, "none")
        self.assertEqual(refused(self, NoKind, built, self.kinds, [("ring", [("on", 1)]), ("", [])]).name, "")

    def test_no_room(self):
        self.assertEqual(refused(self, NoRoom, built, self.kinds, [("word", [("on", 0)])]).room, "on")
        self.assertEqual(refused(self, NoRoom, built, self.kinds, [("pair", [("mid", 0)])]).room, "mid")
        self.assertEqual(refused(self, NoRoom, built, self.kinds, [("ring", [("nowhere", 0)])]).room, "nowhere")

    def test_twice(self):
        nodes = [("pair", [("left", 1), ("right", 1), ("left", 1)]), ("word", [])]
        self.assertEqual(refused(self, Twice, built, self.kinds, nodes).room, "left")

    def test_one_room_at_two_nodes_is_not_twice(self):
        self.assertEqual(len(built(self.kinds, [("ring", [("on", 1)]), ("ring", [("on", 1)])])), 2)

    def test_number_of_no_node(self):
        for number in (1, 2, -1, -2, 40, 10 ** 30):
            self.assertEqual(refused(self, BadNodes, built, self.kinds, [("ring", [("on", number)])]).at, number)

    def test_unfit(self):
        refused(self, Unfit, built, self.kinds, [("pair", [("right", 1)]), ("ring", [])])
        refused(self, Unfit, built, self.kinds, [("pair", [("right", 1)]), ("any", [])])
        refused(self, Unfit, built, self.kinds, [("triple", [("left", 1)]), ("any", [])])
        self.assertEqual(len(built(self.kinds, [("triple", [("left", 1)]), ("verb", [])])), 2)

    def test_first_fault_of_two_nodes(self):
        bad_kind, bad_room = ("none", []), ("word", [("on", 0)])
        twice, bad_number = ("ring", [("on", 0), ("on", 0)]), ("ring", [("on", 7)])
        errors = {NoKind: bad_kind, NoRoom: bad_room, Twice: twice, BadNodes: bad_number}
        for first in errors:
            for second in errors:
                refused(self, first, built, self.kinds, [("word", []), errors[first], errors[second]])

    def test_first_fault_of_two_pairs(self):
        faults = {NoRoom: ("on", 0), Twice: ("left", 0), BadNodes: ("right", -1)}
        for first in faults:
            for second in faults:
                if first != second:
                    nodes = [("pair", [("left", 0), faults[first], faults[second]])]
                    refused(self, first, built, self.kinds, nodes)

    def test_first_fault_of_one_pair(self):
        refused(self, NoRoom, built, self.kinds, [("word", [("on", 9), ("on", 9)])])
        nodes = [("ring", [("on", 0), ("on", 9)])]
        refused(self, Twice, built, self.kinds, nodes)
        refused(self, BadNodes, built, self.kinds, [("ring", [("on", 9), ("on", 9)])])

    def test_unfit_goes_behind_all_others(self):
        unfit = ("pair", [("right", 0)])
        for error, node in ((NoKind, ("none", [])), (NoRoom, ("word", [("on", 0)])), (BadNodes, ("ring", [("on", 7)])),
                            (Twice, ("ring", [("on", 0), ("on", 0)]))):
            refused(self, error, built, self.kinds, [unfit, node])
        refused(self, BadNodes, built, self.kinds, [unfit] * 41)

    def test_lists_and_tuples_alike(self):
        as_lists = [["pair", [["right", 1], ["left", 1]]], ["word", []]]
        as_tuples = (("pair", (("right", 1), ("left", 1))), ("word", ()))
        one, other = built(self.kinds, as_lists), built(self.kinds, as_tuples)
        self.assertTrue(one == other)
        self.assertEqual(one.nodes(), other.nodes())
        self.assertEqual(one.nodes(), [("pair", [("left", 1), ("right", 1)]), ("word", [])])

    def test_nothing_handed_in_is_changed_or_kept(self):
        pairs = [("right", 1), ("left", 1)]
        nodes = [("pair", pairs), ("word", [])]
        box = built(self.kinds, nodes)
        self.assertEqual(nodes, [("pair", [("right", 1), ("left", 1)]), ("word", [])])
        pairs.clear()
        nodes[1][1].append(("left", 0))
        nodes.append(("word", []))
        self.assertEqual(box.nodes(), [("pair", [("left", 1), ("right", 1)]), ("word", [])])
        self.assertEqual(str(box), "pair[left:#1=word right:#1]")

    def test_nothing_refused_changes_anything(self):
        nodes = [("pair", [("right", 1), ("left", 1)]), ("ring", [])]
        before = self.kinds.twin()
        refused(self, Unfit, built, self.kinds, nodes)
        self.assertEqual(nodes, [("pair", [("right", 1), ("left", 1)]), ("ring", [])])
        self.assertTrue(self.kinds == before)

    def test_by_keyword(self):
        nodes = [("ring", [("on", 0)])]
        self.assertTrue(built(nodes=nodes, kinds=self.kinds) == built(kinds=self.kinds, nodes=nodes))


class TestBox(unittest.TestCase):
    def setUp(self):
        self.kinds = small_table()
        self.box = built(self.kinds, [("pair", [("left", 1), ("right", 2)]), ("ring", [("on", 0)]), ("noun", [])])

    def test_kind(self):
        self.assertEqual(self.box.kind(), "pair")
        self.assertEqual(self.box.behind(["right"]).kind(), "noun")

    def test_nodes_are_new_each_time(self):
        told = self.box.nodes()
        self.assertIsInstance(told, list)
        self.assertIsInstance(told[0], tuple)
        self.assertIsInstance(told[0][1], list)
        self.assertIsInstance(told[0][1][0], tuple)
        kept = self.box.nodes()
        told[0][1].clear()
        told[2][1].append(("on", 0))
        told.pop()
        self.assertEqual(self.box.nodes(), kept)
        self.assertEqual(len(self.box), 3)

    def test_nodes_build_it_again(self):
        for box in some_boxes(2, 50):
            self.assertTrue(built(self.kinds, box.nodes()) == box)

    def test_behind_nothing(self):
        self.assertTrue(self.box.behind([]) == self.box)
        self.assertTrue(self.box.behind(()) == self.box)

    def test_behind_is_numbered_anew(self):
        self.assertEqual(self.box.behind(["left"]).nodes(), [
            ("ring", [("on", 1)]), ("pair", [("left", 0), ("right", 2)]), ("noun", [])])
        self.assertEqual(self.box.behind(("right",)).nodes(), [("noun", [])])

    def test_behind_round_a_ring(self):
        self.assertTrue(self.box.behind(["left", "on"]) == self.box)
        self.assertTrue(self.box.behind(["left", "on"] * 50 + ["left"]) == self.box.behind(["left"]))
        one = built(self.kinds, [("ring", [("on", 0)])])
        self.assertTrue(one.behind(["on"] * 99) == one)

    def test_behind_no_room(self):
        for path, room in ((["on"], "on"), (["on", "left"], "on"), (["left", "mid", "on"], "mid"),
                           (["left", "on", "right", "left"], "left"), (["left", "left", "on", "bad"], "left"),
                           (["right", "", "on"], ""), (["left", "on", "left", "on", "x"], "x")):
            self.assertEqual(refused(self, NoRoom, self.box.behind, path).room, room)
        self.assertEqual(refused(self, NoRoom, self.box.behind, ("right", "on")).room, "on")

    def test_behind_by_keyword_changes_nothing(self):
        path = ["left", "on"]
        self.assertTrue(self.box.behind(path=path) == self.box)
        self.assertEqual(path, ["left", "on"])

    def test_behind_is_a_box_for_itself(self):
        told = self.box.behind(["left"])
        told.nodes().clear()
        self.assertEqual(len(self.box), 3)
        self.assertEqual(len(told), 3)

    def test_len(self):
        self.assertEqual(len(self.box), 3)
        self.assertEqual(len(self.box.behind(["right"])), 1)

    def test_alike(self):
        other = built(self.kinds, [("pair", [("right", 1), ("left", 2)]), ("noun", []), ("ring", [("on", 0)])])
        self.assertTrue(self.box == other)
        self.assertFalse(self.box != other)

    def test_alike_of_tables_apart(self):
        self.assertTrue(self.box == built(small_table(), self.box.nodes()))

    def test_unlike(self):
        for nodes in ([("pair", [("left", 1), ("right", 2)]), ("ring", [("on", 0)]), ("verb", [])],
                      [("triple", [("left", 2), ("right", 2)]), ("ring", [("on", 0)]), ("noun", [])],
                      [("triple", [("mid", 1), ("right", 2)]), ("ring", [("on", 0)]), ("noun", [])],
                      [("pair", [("left", 1), ("right", 2)]), ("ring", []), ("noun", [])],
                      [("pair", [("left", 1), ("right", 2)]), ("ring", [("on", 1)]), ("noun", [])],
                      [("pair", [("left", 1), ("right", 2)]), ("ring", [("on", 2)]), ("noun", [])],
                      [("pair", [("left", 1)]), ("ring", [("on", 0)])]):
            other = built(self.kinds, nodes)
            self.assertFalse(self.box == other)
            self.assertTrue(self.box != other)

    def test_unlike_in_what_is_shared_alone(self):
        shared = built(self.kinds, [("pair", [("left", 1), ("right", 1)]), ("word", [])])
        apart = built(self.kinds, [("pair", [("left", 1), ("right", 2)]), ("word", []), ("word", [])])
        self.assertFalse(shared == apart)
        short = built(self.kinds, [("ring", [("on", 0)])])
        long = built(self.kinds, [("ring", [("on", 1)]), ("ring", [("on", 0)])])
        self.assertFalse(short == long)
        self.assertTrue(short != long)

    def test_unlike_in_one_rooms_name(self):
        kinds = Kinds()
        kinds.put("both", rooms=[("here", "any"), ("there", "any")])
        one = built(kinds, [("both", [("here", 1)]), ("any", [])])
        other = built(kinds, [("both", [("there", 1)]), ("any", [])])
        self.assertFalse(one == other)

    def test_no_box(self):
        for thing in (None, 3, "", str(self.box), self.box.nodes(), tuple(self.box.nodes()), [], self.kinds, object()):
            self.assertIs(self.box == thing, False)
            self.assertIs(self.box != thing, True)
            self.assertIs(thing == self.box, False)

    def test_answers_are_true_or_false(self):
        self.assertIs(self.box == self.box.behind([]), True)
        self.assertIs(self.box == built(self.kinds, [("word", [])]), False)

    def test_texts(self):
        self.assertEqual(str(self.box), "#1=pair[left:ring[on:#1] right:noun]")
        self.assertEqual(str(self.box), written(self.box))
        self.assertEqual(repr(self.box), "Box(3: pair)")
        self.assertEqual(repr(built(self.kinds, [("pair", [("left", 1), ("right", 1)]), ("word", [])])),
                         "Box(2: pair)")


class TestFits(unittest.TestCase):
    def setUp(self):
        self.kinds = small_table()

    def test_of_its_own_table(self):
        for box in some_boxes(3, 50):
            self.assertIs(fits(self.kinds, box), True)

    def test_kind_that_is_not_there(self):
        box = built(self.kinds, [("ring", [("on", 1)]), ("verb", [])])
        kinds = Kinds()
        self.assertIs(fits(kinds, box), False)
        kinds.put("ring", rooms=[("on", "any")])
        self.assertIs(fits(kinds, box), False)
        kinds.put("verb")
        self.assertIs(fits(kinds, box), True)

    def test_room_that_is_not_let(self):
        box = built(self.kinds, [("ring", [("on", 1)]), ("word", [])])
        kinds = Kinds()
        kinds.put("word")
        kinds.put("ring", rooms=[("off", "any")])
        self.assertIs(fits(kinds, box), False)
        self.assertIs(fits(kinds, built(kinds, [("ring", [])])), True)

    def test_room_that_lets_less(self):
        kinds = Kinds()
        kinds.put("word")
        kinds.put("noun", ("word",))
        kinds.put("ring", rooms=[("on", "noun")])
        self.assertIs(fits(kinds, built(self.kinds, [("ring", [("on", 1)]), ("word", [])])), False)
        self.assertIs(fits(kinds, built(self.kinds, [("ring", [("on", 1)]), ("noun", [])])), True)
        self.assertIs(fits(kinds, built(self.kinds, [("ring", [("on", 0)])])), False)

    def test_a_fault_deep_within(self):
        kinds = self.kinds.twin()
        kinds.put("extra", ("noun",))
        deep = [("ring", [("on", at + 1)]) for at in range(5)] + [("extra", [])]
        self.assertIs(fits(kinds, built(kinds, deep)), True)
        self.assertIs(fits(self.kinds, built(kinds, deep)), False)

    def test_behind_changes_of_the_table(self):
        self.kinds.put("extra", ("ring",), rooms=[("off", "word")])
        box = built(self.kinds, [("extra", [("off", 1)]), ("verb", [])])
        self.assertIs(fits(self.kinds, box), True)
        self.kinds.drop("extra")
        self.assertIs(fits(self.kinds, box), False)
        self.assertEqual(str(box), "extra[off:verb]")
        self.kinds.put("extra", ("ring",), rooms=[("off", "noun")])
        self.assertIs(fits(self.kinds, box), False)
        self.kinds.drop("extra")
        self.kinds.put("extra", ("ring",), rooms=[("off", "any")])
        self.assertIs(fits(self.kinds, box), True)

    def test_very_many_nodes(self):
        box = read(self.kinds, "ring[on:" * 3000 + "word" + "]" * 3000)
        self.assertIs(fits(self.kinds, box), True)
        self.assertIs(fits(Kinds(), box), False)

    def test_by_keyword_changes_nothing(self):
        box = built(self.kinds, [("word", [])])
        before = self.kinds.twin()
        self.assertIs(fits(box=box, kinds=self.kinds), True)
        self.assertTrue(self.kinds == before)


if __name__ == "__main__":
    unittest.main()
