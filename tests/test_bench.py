import itertools
import random
import unittest

from tests.tables import random_box, random_table, refused, rich_table, table
from tests.words import musts_of, ways
from traitmere.bench import Bench
from traitmere.boxes import Box, built
from traitmere.errors import NoBox, NoKind, NoMark, NoRest, NoRoom
from traitmere.joins import rest
from traitmere.rows import numbered
from traitmere.texts import read
from traitmere.walks import at_rest, below


def bench_table():
    return table(
        ("thing", "any", ""), ("live", "thing", ""), ("red", "thing", ""), ("carp", "live red", ""),
        ("big", "thing", ""), ("holder", "any", "in:thing out:any"), ("tank", "holder", "in:live"),
        ("loop", "any", "on:any"), ("fast", "loop", ""), ("kept", "fast", "by:any"),
        musts=("kept[by:live]",))


class BenchCase(unittest.TestCase):
    """A bench with boxes that are told by their texts."""

    def setUp(self):
        self.kinds = bench_table()
        self.bench = Bench(self.kinds)

    def bring(self, *texts):
        return [self.bench.bring(read(self.kinds, text)) for text in texts]

    def check(self, *texts):
        """What is told of all boxes, as they came."""
        self.assertEqual([str(self.bench.told(number)) for number in range(len(self.bench))], list(texts))


class TestBring(BenchCase):
    def test_numbers(self):
        self.assertEqual(len(self.bench), 0)
        self.assertEqual(self.bring("live", "live", "holder[in:#1=red out:#1]"), [0, 1, 2])
        self.assertEqual(len(self.bench), 3)
        self.check("live", "live", "holder[in:#1=red out:#1]")
        self.assertIsInstance(self.bench.told(0), Box)

    def test_boxes_are_led_to_rest(self):
        self.bring("kept", "holder[out:kept[by:red]]", "loop[on:kept]")
        self.check("kept[by:live]", "holder[out:kept[by:carp]]", "loop[on:kept[by:live]]")

    def test_no_rest(self):
        self.bring("live")
        error = refused(self, NoRest, self.bench.bring, read(self.kinds, "loop[on:kept[by:big]]"))
        self.assertEqual(error.called, "NoRest")
        self.assertEqual(len(self.bench), 1)
        self.check("live")
        self.assertEqual(self.bring("red"), [1])

    def test_a_box_twice_is_two_boxes(self):
        box = read(self.kinds, "loop")
        self.assertEqual([self.bench.bring(box), self.bench.bring(box)], [0, 1])
        self.assertIs(self.bench.narrow(0, "fast"), True)
        self.check("fast", "loop")
        self.assertEqual(str(box), "loop")

    def test_told_of_a_path(self):
        self.bring("holder[in:#1=red out:loop[on:#1]]", "#1=loop[on:holder[out:#1]]")
        self.assertEqual(str(self.bench.told(0, path=["out"])), "loop[on:red]")
        self.assertEqual(str(self.bench.told(0, path=("out", "on"))), "red")
        self.assertEqual(str(self.bench.told(1, path=["on"])), "#1=holder[out:loop[on:#1]]")
        self.assertEqual(self.bench.told(1, path=["on", "out"] * 7), self.bench.told(1))
        self.assertEqual(self.bench.told(0, path=()), self.bench.told(0))

    def test_places_that_there_are_not(self):
        self.bring("holder[in:red out:loop]")
        for number in (1, -1, 7):
            self.assertEqual(refused(self, NoBox, self.bench.told, number).number, number)
            self.assertEqual(refused(self, NoBox, self.bench.told, number, path=["no"]).number, number)
        for path, room in ((["on"], "on"), (["in", "in"], "in"), (["out", "on", "no"], "on"), (["", "on"], ""),
                           (["out", "by"], "by")):
            self.assertEqual(refused(self, NoRoom, self.bench.told, 0, path=path).room, room)


class TestFuse(BenchCase):
    def test_two_boxes(self):
        self.bring("holder[in:live]", "holder[out:red]", "holder")
        self.assertIs(self.bench.fuse(0, 1), True)
        self.check("holder[in:live out:red]", "holder[in:live out:red]", "holder")

    def test_what_is_fused_stays_one(self):
        self.bring("loop[on:thing]", "loop[on:live]", "holder")
        self.bench.fuse(0, 1, path=["on"], other_path=["on"])
        self.check("loop[on:live]", "loop[on:live]", "holder")
        self.assertIs(self.bench.narrow(1, "red", path=["on"]), True)
        self.check("loop[on:carp]", "loop[on:carp]", "holder")
        self.assertIs(self.bench.narrow(0, "fast"), True)
        self.check("fast[on:carp]", "loop[on:carp]", "holder")

    def test_what_is_behind_is_fused_too(self):
        self.bring("loop[on:holder[in:thing]]", "loop[on:holder[in:live out:red]]")
        self.bench.fuse(0, 1)
        self.bench.narrow(0, "carp", path=["on", "in"])
        self.check(*["loop[on:holder[in:carp out:red]]"] * 2)
        self.bench.fuse(1, 0, path=["on", "in"], other_path=["on", "out"])
        self.check(*["loop[on:holder[in:#1=carp out:#1]]"] * 2)

    def test_two_places_of_one_box(self):
        self.bring("holder[in:live out:red]")
        self.assertIs(self.bench.fuse(0, 0, path=["in"], other_path=["out"]), True)
        self.check("holder[in:#1=carp out:#1]")
        self.assertIs(self.bench.fuse(0, 0, path=["in"], other_path=["out"]), True)
        self.assertIs(self.bench.fuse(0, 0), True)
        self.check("holder[in:#1=carp out:#1]")

    def test_rings(self):
        self.bring("loop[on:loop[on:loop]]", "#1=loop[on:loop[on:#1]]", "#1=loop[on:loop[on:loop[on:#1]]]")
        self.assertIs(self.bench.fuse(0, 0, other_path=["on", "on"]), True)
        self.check("#1=loop[on:loop[on:#1]]", "#1=loop[on:loop[on:#1]]", "#1=loop[on:loop[on:loop[on:#1]]]")
        self.assertIs(self.bench.fuse(1, 2, path=["on"], other_path=["on", "on"]), True)
        self.check("#1=loop[on:loop[on:#1]]", "#1=loop[on:#1]", "#1=loop[on:#1]")
        self.assertIs(self.bench.narrow(2, "fast", path=["on"] * 5), True)
        self.check("#1=loop[on:loop[on:#1]]", "#1=fast[on:#1]", "#1=fast[on:#1]")

    def test_paths_through_shared_rooms(self):
        self.bring("holder[in:#1=thing out:loop[on:#1]]", "loop[on:holder[in:thing]]")
        self.assertIs(self.bench.fuse(0, 1, path=["out", "on"], other_path=["on", "in"]), True)
        self.assertIs(self.bench.narrow(0, "live", path=["in"]), True)
        self.check("holder[in:#1=live out:loop[on:#1]]", "loop[on:holder[in:live]]")

    def test_what_can_not_be(self):
        texts = ["holder[in:live out:loop]", "holder[in:big out:red]", "#1=loop[on:#1]", "loop[on:loop[on:big]]"]
        self.bring(*texts)
        for one, other, path, other_path in ((0, 1, (), ()), (1, 0, ["in"], ["in"]), (0, 0, ["in"], ["out"]),
                                             (2, 3, (), ()), (2, 3, ["on", "on"], ["on"]), (0, 1, ["out"], ["out"]),
                                             (0, 1, (), ["in"]), (3, 3, (), ["on", "on"])):
            told = self.bench.fuse(one, other, path=path, other_path=other_path)
            self.assertIs(told, False)
            self.check(*texts)
        self.assertIs(self.bench.fuse(0, 1, path=["out"], other_path=["out"]), False)
        self.assertIs(self.bench.fuse(0, 2, path=["out"], other_path=["on"]), True)
        self.check("holder[in:live out:#1=loop[on:#1]]", *texts[1:])

    def test_refusals_and_which_goes_first(self):
        self.bring("holder[in:live]", "loop[on:live]")
        self.assertEqual(refused(self, NoBox, self.bench.fuse, 2, 3).number, 2)
        self.assertEqual(refused(self, NoBox, self.bench.fuse, 0, 3).number, 3)
        self.assertEqual(refused(self, NoBox, self.bench.fuse, -1, 0).number, -1)
        self.assertEqual(refused(self, NoRoom, self.bench.fuse, 0, 3, path=["on"]).room, "on")
        self.assertEqual(refused(self, NoRoom, self.bench.fuse, 0, 1, path=["on"], other_path=["in"]).room, "on")
        self.assertEqual(refused(self, NoRoom, self.bench.fuse, 0, 1, path=["in"], other_path=["in"]).room, "in")
        self.assertEqual(refused(self, NoBox, self.bench.fuse, 0, 2, path=["in"], other_path=["in"]).number, 2)
        self.check("holder[in:live]", "loop[on:live]")

    def test_musts_that_come_in(self):
        self.bring("fast[on:big]", "loop", "holder[out:kept[by:red]]")
        self.assertIs(self.bench.fuse(0, 1), True)
        self.assertIs(self.bench.fuse(1, 2, other_path=["out"]), True)
        self.check("kept[by:carp on:big]", "kept[by:carp on:big]", "holder[out:kept[by:carp on:big]]")


class TestNarrow(BenchCase):
    def test_a_place(self):
        self.bring("holder[in:live out:loop]")
        self.assertIs(self.bench.narrow(0, "red", path=["in"]), True)
        self.assertIs(self.bench.narrow(0, "tank"), True)
        self.assertIs(self.bench.narrow(0, "any"), True)
        self.assertIs(self.bench.narrow(0, "holder"), True)
        self.check("tank[in:carp out:loop]")

    def test_what_is_let_there(self):
        self.bring("holder[in:thing]", "holder[in:big]")
        self.assertIs(self.bench.narrow(0, "tank"), True)
        self.assertIs(self.bench.narrow(1, "tank"), False)
        self.check("tank[in:live]", "holder[in:big]")

    def test_what_can_not_be(self):
        self.bring("holder[in:live]")
        self.assertIs(self.bench.narrow(0, "loop"), False)
        self.assertIs(self.bench.narrow(0, "big", path=("in",)), False)
        self.check("holder[in:live]")

    def test_musts_that_come_in(self):
        self.bring("fast[on:big]", "loop[on:loop]")
        self.assertIs(self.bench.narrow(0, "kept"), True)
        self.assertIs(self.bench.narrow(1, "kept", path=["on"]), True)
        self.check("kept[by:live on:big]", "loop[on:kept[by:live]]")
        self.assertIs(self.bench.narrow(0, "big", path=["by"]), False)
        self.assertIs(self.bench.narrow(0, "red", path=["by"]), True)
        self.check("kept[by:carp on:big]", "loop[on:kept[by:live]]")

    def test_refusals_and_which_goes_first(self):
        self.bring("holder[in:live]")
        self.assertEqual(refused(self, NoKind, self.bench.narrow, 0, "none").name, "none")
        self.assertEqual(refused(self, NoBox, self.bench.narrow, 1, "none").number, 1)
        self.assertEqual(refused(self, NoRoom, self.bench.narrow, 0, "none", path=["out"]).room, "out")
        self.check("holder[in:live]")


class TestGive(BenchCase):
    def test_a_room_that_is_not_there_yet(self):
        self.bring("holder", "red")
        self.assertIs(self.bench.give(0, "in", 1), True)
        self.check("holder[in:red]", "red")
        self.assertIs(self.bench.narrow(1, "live"), True)
        self.check("holder[in:carp]", "carp")

    def test_a_room_that_is_there(self):
        self.bring("holder[in:live]", "red")
        self.assertIs(self.bench.give(0, "in", 1), True)
        self.check("holder[in:carp]", "carp")

    def test_what_is_let_there(self):
        self.bring("tank", "thing", "big")
        self.assertIs(self.bench.give(0, "in", 2), False)
        self.check("tank", "thing", "big")
        self.assertIs(self.bench.give(0, "in", 1), True)
        self.check("tank[in:live]", "live", "big")

    def test_what_can_not_be(self):
        self.bring("holder[in:live]", "big", "loop")
        self.assertIs(self.bench.give(0, "in", 1), False)
        self.assertIs(self.bench.give(0, "in", 2), False)
        self.check("holder[in:live]", "big", "loop")
        self.assertIs(self.bench.give(0, "out", 1), True)
        self.check("holder[in:live out:big]", "big", "loop")

    def test_a_box_into_itself(self):
        self.bring("loop", "loop[on:loop]")
        self.assertIs(self.bench.give(0, "on", 0), True)
        self.assertIs(self.bench.give(1, "on", 1, path=["on"]), True)
        self.check("#1=loop[on:#1]", "#1=loop[on:loop[on:#1]]")

    def test_one_box_into_two_rooms(self):
        self.bring("holder", "thing", "loop[on:holder]")
        self.assertIs(self.bench.give(0, "in", 1), True)
        self.assertIs(self.bench.give(0, "out", 1), True)
        self.assertIs(self.bench.give(2, "out", 1, path=["on"]), True)
        self.assertIs(self.bench.narrow(2, "red", path=["on", "out"]), True)
        self.check("holder[in:#1=red out:#1]", "red", "loop[on:holder[out:red]]")

    def test_a_room_that_the_kind_came_to_have_by_a_deed(self):
        self.bring("loop", "red")
        self.assertEqual(refused(self, NoRoom, self.bench.give, 0, "by", 1).room, "by")
        self.bench.narrow(0, "kept")
        self.assertIs(self.bench.give(0, "by", 1), True)
        self.check("kept[by:carp]", "carp")

    def test_refusals_and_which_goes_first(self):
        self.bring("holder[in:live]", "red")
        for room in ("on", "no", "", "by"):
            self.assertEqual(refused(self, NoRoom, self.bench.give, 0, room, 1).room, room)
        self.assertEqual(refused(self, NoRoom, self.bench.give, 0, "in", 1, path=["in"]).room, "in")
        self.assertEqual(refused(self, NoBox, self.bench.give, 0, "on", 2).number, 2)
        self.assertEqual(refused(self, NoBox, self.bench.give, 0, "in", -1).number, -1)
        self.assertEqual(refused(self, NoBox, self.bench.give, 3, "on", 2).number, 3)
        self.assertEqual(refused(self, NoRoom, self.bench.give, 0, "on", 2, path=["out"]).room, "out")
        self.check("holder[in:live]", "red")


class TestMarks(BenchCase):
    def test_numbers(self):
        self.assertEqual([self.bench.mark(), self.bench.mark(), self.bench.mark()], [0, 1, 2])
        self.assertIsNone(self.bench.back(1))
        self.assertEqual(self.bench.mark(), 1)

    def test_no_mark(self):
        for number in (0, -1, 5):
            self.assertEqual(refused(self, NoMark, self.bench.back, number).number, number)
        self.bring("live")
        self.bench.mark()
        self.bench.mark()
        for number in (2, -1, -2):
            self.assertEqual(refused(self, NoMark, self.bench.back, number).number, number)
        self.bench.back(1)
        self.assertEqual(refused(self, NoMark, self.bench.back, 1).number, 1)
        self.bench.back(0)
        self.assertEqual(refused(self, NoMark, self.bench.back, 0).number, 0)
        self.check("live")

    def test_each_of_several(self):
        stages = [[], ["loop[on:thing]"], ["loop[on:thing]", "red"], ["loop[on:red]", "red"], ["loop[on:carp]", "carp"]]
        for to in range(5):
            self.bench = Bench(self.kinds)
            self.bench.mark()
            self.bring("loop[on:thing]")
            self.bench.mark()
            self.bring("red")
            self.bench.mark()
            self.assertIs(self.bench.fuse(0, 1, path=["on"]), True)
            self.bench.mark()
            self.assertIs(self.bench.narrow(1, "live"), True)
            self.assertEqual(self.bench.mark(), 4)
            self.bench.back(to)
            self.assertEqual(len(self.bench), len(stages[to]))
            self.check(*stages[to])
            self.assertEqual(self.bench.mark(), to)

    def test_what_was_fused_is_two_again(self):
        self.bring("loop", "loop")
        self.bench.mark()
        self.bench.fuse(0, 1)
        self.bench.back(0)
        self.bench.narrow(0, "fast")
        self.check("fast", "loop")

    def test_numbers_of_boxes_are_given_anew(self):
        self.bring("live")
        self.bench.mark()
        self.assertEqual(self.bring("red", "big"), [1, 2])
        self.bench.back(0)
        self.assertEqual(refused(self, NoBox, self.bench.told, 1).number, 1)
        self.assertEqual(self.bring("loop"), [1])
        self.check("live", "loop")

    def test_the_same_deeds_tell_the_same_again(self):
        self.bring("holder[in:thing out:loop]", "kept")
        self.bench.mark()
        told = []
        for count in range(3):
            self.bench.back(0)
            self.assertEqual(self.bench.mark(), 0)
            self.bring("carp")
            told.append((self.bench.give(0, "in", 2), self.bench.fuse(0, 1, path=["out"]),
                         self.bench.narrow(1, "big", path=["by"]), self.bench.narrow(0, "tank"),
                         [str(self.bench.told(number)) for number in range(3)]))
        self.assertEqual(told, [told[0]] * 3)
        self.assertEqual(told[0][:4], (True, True, False, True))

    def test_marks_ahead_stay_good(self):
        self.bring("thing")
        self.bench.mark()
        self.bench.narrow(0, "live")
        self.bench.mark()
        self.bench.narrow(0, "carp")
        self.bench.back(1)
        self.check("live")
        self.bench.narrow(0, "red")
        self.bench.back(0)
        self.check("thing")

    def test_a_deed_that_can_not_be_leaves_marks(self):
        self.bring("live", "big")
        self.bench.mark()
        self.assertIs(self.bench.fuse(0, 1), False)
        refused(self, NoRest, self.bench.bring, read(self.kinds, "kept[by:big]"))
        self.bench.back(0)
        self.check("live", "big")


class TestApart(BenchCase):
    def test_the_table_changes_behind_the_bench(self):
        self.bring("live", "big")
        self.kinds.put("whale", ["live", "big"])
        self.assertIs(self.bench.fuse(0, 1), False)
        self.assertEqual(refused(self, NoKind, self.bench.narrow, 0, "whale").name, "whale")
        self.kinds.free("kept")
        self.bring("kept")
        self.check("live", "big", "kept[by:live]")
        self.assertEqual(Bench(self.kinds).bring(read(self.kinds, "whale")), 0)

    def test_the_bench_changes_nothing_of_the_table(self):
        twin = self.kinds.twin()
        self.bring("kept", "loop")
        self.bench.fuse(0, 1)
        self.assertEqual(twin, self.kinds)

    def test_two_benches_of_one_table(self):
        other = Bench(self.kinds)
        self.bring("thing")
        self.assertEqual(len(other), 0)
        other.bring(read(self.kinds, "thing"))
        other.mark()
        other.narrow(0, "live")
        self.check("thing")
        self.assertEqual(str(other.told(0)), "live")
        self.assertEqual(refused(self, NoMark, self.bench.back, 0).number, 0)

    def test_told_boxes_stay_as_they_were(self):
        self.bring("loop[on:thing]")
        told = self.bench.told(0)
        self.bench.narrow(0, "live", path=["on"])
        self.assertEqual(str(told), "loop[on:thing]")

    def test_handed_paths_stay_and_are_not_kept(self):
        self.bring("loop[on:loop[on:thing]]")
        path = ["on", "on"]
        self.bench.fuse(0, 0, path=path, other_path=path)
        self.bench.narrow(0, "live", path=path)
        self.bench.told(0, path=path)
        self.assertEqual(path, ["on", "on"])

    def test_calls_by_keyword(self):
        bench = Bench(kinds=self.kinds)
        self.assertEqual([bench.bring(box=read(self.kinds, text)) for text in ("loop[on:thing]", "loop[on:live]")],
                         [0, 1])
        self.assertIs(bench.fuse(other_path=["on"], path=["on"], other=1, one=0), True)
        self.assertIs(bench.narrow(path=("on",), kind="red", one=0), True)
        self.assertIs(bench.give(path=(), other=0, room="on", one=1), False)
        self.assertIs(bench.give(other=0, room="on", one=0), False)
        self.assertEqual(str(bench.told(path=["on"], one=1)), "carp")
        self.assertIsNone(bench.back(mark=bench.mark()))


class SlowBench:
    """The bench in another way: nodes in a dict, and for each pair that is one the one name put for the other."""

    def __init__(self, kinds):
        self.kinds = kinds
        self.nodes = {}
        self.roots = []
        self.marks = []

    def with_box(self, box):
        """The nodes with those of a box, and the number of its root."""
        first = max(self.nodes, default=-1) + 1
        nodes = dict(self.nodes)
        for number, (kind, pairs) in enumerate(box.nodes()):
            nodes[first + number] = (kind, {room: first + there for room, there in pairs})
        return nodes, first

    def bring(self, box):
        nodes, first = self.with_box(box)
        return self.comes_to_rest(nodes, self.roots + [first], [])

    def fuse(self, one, other, path, other_path):
        return self.comes_to_rest(self.nodes, self.roots, [(self.place(one, path), self.place(other, other_path))])

    def narrow(self, one, kind, path):
        nodes, first = self.with_box(built(self.kinds, [(kind, [])]))
        return self.comes_to_rest(nodes, self.roots, [(self.place(one, path), first)])

    def give(self, one, room, other, path):
        at, root = self.place(one, path), self.place(other, [])
        kind, rooms = self.nodes[at]
        if room in rooms:
            return self.comes_to_rest(self.nodes, self.roots, [(rooms[room], root)])
        if room not in dict(self.kinds.rooms(kind)):
            return "NoRoom"
        return self.comes_to_rest({**self.nodes, at: (kind, {**rooms, room: root})}, self.roots, [])

    def place(self, number, path):
        at = self.roots[number]
        for room in path:
            at = self.nodes[at][1][room]
        return at

    def told(self, number):
        return self.behind(self.roots[number])

    def behind(self, at):
        rows = {each: (kind, list(rooms.items())) for each, (kind, rooms) in self.nodes.items()}
        return Box(numbered(rows, at))

    def comes_to_rest(self, nodes, roots, pairs):
        """Whether these nodes come to rest where these pairs are one; then they stand here."""
        old = self.nodes, self.roots
        self.nodes, self.roots = nodes, roots
        waiting = list(pairs) or self.what_is_lacking()
        while waiting:
            if not self.put_one_for_the_other(waiting):
                self.nodes, self.roots = old
                return False
            waiting = waiting or self.what_is_lacking()
        return True

    def put_one_for_the_other(self, waiting):
        one, other = waiting.pop()
        if one == other:
            return True
        low = self.kinds.low(self.nodes[one][0], self.nodes[other][0])
        if low is None:
            return False
        mine, theirs = self.nodes[one][1], self.nodes[other][1]
        nodes = {**self.nodes, one: (low, {**theirs, **mine})}
        del nodes[other]
        waiting += [(mine[room], theirs[room]) for room in mine if room in theirs]
        waiting[:] = [tuple(one if at == other else at for at in pair) for pair in waiting]
        self.nodes = {at: (kind, {room: one if there == other else there for room, there in rooms.items()})
                      for at, (kind, rooms) in nodes.items()}
        self.roots = [one if at == other else at for at in self.roots]
        return True

    def what_is_lacking(self):
        """One pair that has to be one: a node and a new one of what is let there, or of a must; or none."""
        for at, (kind, rooms) in self.nodes.items():
            for room, there in rooms.items():
                let = self.kinds.let_in(kind, room)
                if not self.kinds.is_below(self.nodes[there][0], let):
                    return self.new_pair(there, built(self.kinds, [(let, [])]))
            behind = self.behind(at)
            for name, must in musts_of(self.kinds).items():
                if self.kinds.is_below(kind, name) and not below(self.kinds, behind, must):
                    return self.new_pair(at, must)
        return []

    def new_pair(self, at, box):
        self.nodes, first = self.with_box(box)
        return [(at, first)]


class TestManyDeeds(unittest.TestCase):
    """Deeds by chance on two benches, of which the other one is slow and plain."""

    def compare(self, kinds, chance, deeds):
        bench, slow = Bench(kinds), SlowBench(kinds)
        answers = []
        for count in range(deeds):
            answers.append(self.one_deed(kinds, chance, bench, slow))
            self.assertEqual(len(bench), len(slow.roots))
            for number in range(len(bench)):
                told = bench.told(number)
                self.assertEqual(told, slow.told(number))
                self.assertTrue(at_rest(kinds, told))
        return answers

    def one_deed(self, kinds, chance, bench, slow):
        if len(bench) < 2 or chance.random() < 0.15:
            box = random_box(kinds, chance, chance.randint(1, 5))
            can_be = slow.bring(box)
            self.assertEqual(can_be, rest(kinds, box) is not None)
            if can_be:
                self.assertEqual(bench.bring(box), len(slow.roots) - 1)
            else:
                refused(self, NoRest, bench.bring, box)
            return "bring", can_be
        if chance.random() < 0.2:
            return self.mark_or_back(chance, bench, slow)
        one, other = chance.randrange(len(bench)), chance.randrange(len(bench))
        path, other_path = (chance.choice(ways(bench.told(number))) for number in (one, other))
        word = chance.choice(("fuse", "narrow", "give"))
        if word == "fuse":
            told = bench.fuse(one, other, path=path, other_path=other_path)
            self.assertIs(told, slow.fuse(one, other, path, other_path))
        elif word == "narrow":
            kind = chance.choice(kinds.names())
            told = bench.narrow(one, kind, path=path)
            self.assertIs(told, slow.narrow(one, kind, path))
        else:
            room = chance.choice(sorted({room for name in kinds.names() for room, let in kinds.rooms(name)} | {"zz"}))
            told = slow.give(one, room, other, path)
            if told == "NoRoom":
                self.assertEqual(refused(self, NoRoom, bench.give, one, room, other, path=path).room, room)
            else:
                self.assertIs(bench.give(one, room, other, path=path), told)
        return word, told

    def mark_or_back(self, chance, bench, slow):
        if not slow.marks or chance.random() < 0.5:
            self.assertEqual(bench.mark(), len(slow.marks))
            slow.marks.append((slow.nodes, slow.roots))
            return "mark", True
        number = chance.randrange(len(slow.marks))
        self.assertIsNone(bench.back(number))
        slow.nodes, slow.roots = slow.marks[number]
        del slow.marks[number:]
        return "back", True

    def test_many_deeds(self):
        chance = random.Random(5)
        answers = []
        for count in range(60):
            kinds = (rich_table(), bench_table(), random_table(chance), random_table(chance, 14))[count % 4]
            answers += self.compare(kinds, chance, 25)
        for word, told in itertools.product(("fuse", "narrow", "give", "bring"), (True, False)):
            self.assertGreater(answers.count((word, told)), 5, (word, told))
        self.assertGreater(answers.count(("back", True)), 20)
        self.assertGreater(answers.count(("give", "NoRoom")), 20)


if __name__ == "__main__":
    unittest.main()
