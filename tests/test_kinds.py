import random
import unittest

from tests import words
from tests.tables import random_box, refused, small_table, table
from traitmere.boxes import built
from traitmere.errors import (BadName, BadParts, Forked, Full, Missing, NoFit, NoKind, NoMust, NoRoom, Ring, Strange,
                              Taken, TraitError, Twice, Unfit, Used, Wider)
from traitmere.kinds import ANY, MOST_KINDS, Kinds
from traitmere.texts import read


def diamond():
    return table(("top", "any", ""), ("left", "top", ""), ("right", "top", ""), ("low", "left right", ""))


class Unchanged:
    """A check that a table is as it was, also in what `==` doesn't tell."""

    def __init__(self, case, kinds):
        self.case, self.kinds, self.before = case, kinds, self.all_of(kinds)

    def all_of(self, kinds):
        return [(name, kinds.ups(name), kinds.above(name), kinds.under(name), kinds.rooms(name), kinds.told(name),
                 str(kinds.must_of(name))) for name in kinds.names()]

    def refused(self, error, call, *given, **named):
        raised = refused(self.case, error, call, *given, **named)
        self.case.assertEqual(self.all_of(self.kinds), self.before)
        return raised


class TestNames(unittest.TestCase):
    def test_values(self):
        self.assertEqual(ANY, "any")
        self.assertEqual(MOST_KINDS, 24)

    def test_begins_with_any(self):
        kinds = Kinds()
        self.assertEqual(kinds.names(), ["any"])
        self.assertEqual((kinds.ups("any"), kinds.above("any"), kinds.under("any")), ([], ["any"], ["any"]))
        self.assertEqual((kinds.rooms("any"), kinds.told("any"), kinds.must_of("any")), ([], [], None))
        self.assertEqual((kinds.low("any", "any"), kinds.high("any", "any")), ("any", "any"))

    def test_put_tells_none(self):
        kinds = Kinds()
        self.assertIsNone(kinds.put("a"))
        self.assertEqual(kinds.ups("a"), ["any"])

    def test_names_as_they_came(self):
        kinds = table(("z", "any", ""), ("b", "any", ""), ("eightlet", "z", ""))
        self.assertEqual(kinds.names(), ["any", "z", "b", "eightlet"])

    def test_bad_names(self):
        kinds = Kinds()
        for name in ("", "ninelette", "A", "aB", "a1", "a b", " a", "a ", "a_b", "a-b", "a\n", "~", "#", "a:b"):
            self.assertEqual(Unchanged(self, kinds).refused(BadName, kinds.put, name).name, name)

    def test_taken(self):
        kinds = small_table()
        for name in ("any", "word", "triple"):
            self.assertEqual(Unchanged(self, kinds).refused(Taken, kinds.put, name, ("none",)).name, name)

    def test_full(self):
        kinds = Kinds()
        for at in range(23):
            kinds.put("k" + chr(ord("a") + at))
        self.assertEqual(len(kinds), 24)
        check = Unchanged(self, kinds)
        check.refused(Full, kinds.put, "more", ("none",))
        check.refused(Taken, kinds.put, "ka")
        check.refused(BadName, kinds.put, "K")
        kinds.drop("kc")
        kinds.put("more")
        self.assertEqual(kinds.names()[-1], "more")

    def test_ups(self):
        kinds = diamond()
        kinds.put("x", ["right", "any", "left", "right", "low"])
        self.assertEqual(kinds.ups("x"), ["any", "left", "low", "right"])
        self.assertEqual(kinds.ups("low"), ["left", "right"])

    def test_bad_ups(self):
        kinds = small_table()
        check = Unchanged(self, kinds)
        self.assertEqual(check.refused(NoKind, kinds.put, "x", ["word", "y", "z"]).name, "y")
        self.assertEqual(check.refused(NoKind, kinds.put, "x", ["x"]).name, "x")
        check.refused(BadParts, kinds.put, "x", [])
        check.refused(BadParts, kinds.put, "x", (), rooms=[("B", "none")])

    def test_what_is_handed_in_is_not_kept_or_changed(self):
        kinds = small_table()
        ups, rooms = ["word", "ring", "word"], [("up", "any"), ("ahead", "word")]
        kinds.put("x", ups, rooms=rooms)
        self.assertEqual((ups, rooms), (["word", "ring", "word"], [("up", "any"), ("ahead", "word")]))
        ups.append("pair")
        rooms[0] = ("other", "any")
        self.assertEqual(kinds.ups("x"), ["ring", "word"])
        self.assertEqual(kinds.told("x"), [("ahead", "word"), ("up", "any")])

    def test_told_lists_are_new(self):
        kinds = small_table()
        check = Unchanged(self, kinds)
        for told in (kinds.names(), kinds.ups("triple"), kinds.above("triple"), kinds.under("word"),
                     kinds.rooms("triple"), kinds.told("triple")):
            self.assertIsInstance(told, list)
            told.append("x")
        self.assertEqual(check.all_of(kinds), check.before)

    def test_tuples_alike(self):
        one, other = Kinds(), Kinds()
        one.put("x", ["any"], rooms=[["a", "any"]])
        other.put("x", ("any",), rooms=(("a", "any"),))
        self.assertTrue(one == other)
        self.assertEqual(one.rooms("x"), other.rooms("x"))

    def test_by_keyword(self):
        kinds = Kinds()
        kinds.put(rooms=[("in", "any")], ups=["any"], name="a")
        kinds.put(ups=("a",), name="b")
        self.assertIs(kinds.is_below(other="a", one="b"), True)
        self.assertEqual(kinds.low(other="a", one="b"), "b")
        self.assertEqual(kinds.high(other="b", one="a"), "a")
        self.assertEqual(kinds.let_in(room="in", name="b"), "any")
        self.assertEqual((kinds.ups(name="b"), kinds.above(name="b"), kinds.under(name="b")),
                         (["a"], ["a", "any", "b"], ["b"]))
        self.assertEqual((kinds.rooms(name="b"), kinds.told(name="b"), kinds.home(room="in")),
                         ([("in", "any")], [], "a"))
        kinds.must(box=built(kinds, [("b", [])]), name="b")
        self.assertEqual(str(kinds.must_of(name="b")), "b")
        kinds.free(name="b")
        kinds.drop(name="b")
        self.assertEqual(kinds.names(), ["any", "a"])

    def test_rooms_are_handed_in_by_name_alone(self):
        with self.assertRaises(TypeError):
            Kinds().put("a", ("any",), [("in", "any")])

    def test_questions_of_no_kind(self):
        kinds = small_table()
        box = built(kinds, [("word", [])])
        for call in (kinds.ups, kinds.above, kinds.under, kinds.rooms, kinds.told, kinds.must_of, kinds.drop,
                     kinds.free):
            self.assertEqual(refused(self, NoKind, call, "none").name, "none")
        self.assertEqual(refused(self, NoKind, kinds.must, "none", box).name, "none")
        self.assertEqual(refused(self, NoKind, kinds.let_in, "none", "no").name, "none")
        for call in (kinds.is_below, kinds.low, kinds.high):
            self.assertEqual(refused(self, NoKind, call, "none", "word").name, "none")
            self.assertEqual(refused(self, NoKind, call, "word", "none").name, "none")
            self.assertEqual(refused(self, NoKind, call, "no", "none").name, "no")
        self.assertEqual(refused(self, NoRoom, kinds.home, "none").room, "none")


class TestOrder(unittest.TestCase):
    def test_diamond(self):
        kinds = diamond()
        self.assertEqual(kinds.above("low"), ["any", "left", "low", "right", "top"])
        self.assertEqual(kinds.under("top"), ["left", "low", "right", "top"])
        self.assertEqual(kinds.low("left", "right"), "low")
        self.assertEqual(kinds.high("left", "right"), "top")
        self.assertEqual(kinds.low("top", "left"), "left")
        self.assertEqual(kinds.high("low", "left"), "left")
        self.assertEqual(kinds.low("low", "low"), "low")
        self.assertIs(kinds.is_below("low", "top"), True)
        self.assertIs(kinds.is_below("low", "low"), True)
        self.assertIs(kinds.is_below("top", "low"), False)
        self.assertIs(kinds.is_below("left", "right"), False)

    def test_no_low(self):
        kinds = small_table()
        self.assertIsNone(kinds.low("noun", "verb"))
        self.assertEqual(kinds.high("noun", "verb"), "word")
        self.assertEqual(kinds.high("noun", "ring"), "any")

    def test_forked(self):
        kinds = diamond()
        check = Unchanged(self, kinds)
        raised = check.refused(Forked, kinds.put, "new", ["right", "left"])
        self.assertEqual((raised.one, raised.other), ("left", "right"))
        check.refused(Forked, kinds.put, "new", ["left", "right"], rooms=[("B", "none")])
        kinds.put("new", ["left", "right", "low"])
        self.assertEqual(kinds.low("left", "right"), "low")

    def test_forked_further_above(self):
        kinds = diamond()
        kinds.put("aleft", ["left"])
        kinds.put("bright", ["right"])
        raised = Unchanged(self, kinds).refused(Forked, kinds.put, "new", ["bright", "aleft"])
        self.assertEqual((raised.one, raised.other), ("left", "right"))

    def test_first_fork_as_pairs_rise(self):
        kinds = table(("c", "any", ""), ("b", "any", ""), ("d", "any", ""), ("a", "any", ""), ("lowcd", "c d", ""),
                      ("lowbd", "b d", ""))
        raised = refused(self, Forked, kinds.put, "new", ["c", "d", "b", "a"])
        self.assertEqual((raised.one, raised.other), ("b", "d"))
        kinds.put("lowab", ["a", "b"])
        raised = refused(self, Forked, kinds.put, "new", ["c", "d", "b", "a"])
        self.assertEqual((raised.one, raised.other), ("a", "b"))

    def test_a_first_low_is_no_fork(self):
        kinds = table(("a", "any", ""), ("b", "any", ""), ("c", "a b", ""))
        self.assertEqual(kinds.low("a", "b"), "c")

    def test_by_words(self):
        chance = random.Random(11)
        forks = 0
        for turn in range(60):
            kinds = Kinds()
            fresh = [f"{letter}{more}" for letter in "abcd" for more in "xyz"]
            chance.shuffle(fresh)
            for name in fresh:
                ups = [chance.choice(kinds.names()) for count in range(chance.randint(1, 3))]
                fork = words.first_fork(kinds, ups)
                if fork is None:
                    kinds.put(name, ups)
                else:
                    raised = Unchanged(self, kinds).refused(Forked, kinds.put, name, ups)
                    self.assertEqual((raised.one, raised.other), fork)
                    forks += 1
            self.check_by_words(kinds)
        self.assertGreater(forks, 30)

    def check_by_words(self, kinds):
        names = kinds.names()
        for one in names:
            self.assertEqual(kinds.above(one), sorted(kind for kind in names if words.kind_below(kinds, one, kind)))
            self.assertEqual(kinds.under(one), sorted(kind for kind in names if words.kind_below(kinds, kind, one)))
            for other in names:
                self.assertEqual(kinds.is_below(one, other), words.kind_below(kinds, one, other))
                self.assertEqual([kinds.high(one, other)], words.highs(kinds, one, other))
                low = kinds.low(one, other)
                self.assertEqual([] if low is None else [low], words.lows(kinds, one, other))


class TestRooms(unittest.TestCase):
    def setUp(self):
        self.kinds = table(("thing", "any", ""), ("live", "thing", ""), ("red", "thing", ""), ("fish", "live", ""),
                           ("holder", "any", "in:thing out:any"))

    def test_brought_in(self):
        self.assertEqual(self.kinds.rooms("holder"), [("in", "thing"), ("out", "any")])
        self.assertEqual(self.kinds.told("holder"), [("in", "thing"), ("out", "any")])
        self.assertEqual(self.kinds.home("in"), "holder")
        self.assertEqual(self.kinds.let_in("holder", "in"), "thing")
        self.assertIsNone(self.kinds.let_in("holder", "no"))
        self.assertIsNone(self.kinds.let_in("thing", "in"))

    def test_told_rising(self):
        self.kinds.put("x", rooms=[("zz", "any"), ("aa", "red"), ("mm", "any")])
        self.assertEqual(self.kinds.told("x"), [("aa", "red"), ("mm", "any"), ("zz", "any")])

    def test_handed_down(self):
        self.kinds.put("bowl", ["holder"], rooms=[("lid", "any")])
        self.assertEqual(self.kinds.rooms("bowl"), [("in", "thing"), ("lid", "any"), ("out", "any")])
        self.assertEqual(self.kinds.told("bowl"), [("lid", "any")])
        self.assertEqual(self.kinds.home("in"), "holder")
        self.assertEqual(self.kinds.home("lid"), "bowl")

    def test_narrower_or_the_same(self):
        self.kinds.put("bowl", ["holder"], rooms=[("in", "fish"), ("out", "any")])
        self.assertEqual(self.kinds.rooms("bowl"), [("in", "fish"), ("out", "any")])
        self.assertEqual(self.kinds.told("bowl"), [("in", "fish"), ("out", "any")])
        self.kinds.put("small", ["bowl"])
        self.assertEqual(self.kinds.let_in("small", "in"), "fish")
        self.assertEqual(self.kinds.told("small"), [])
        self.assertEqual(self.kinds.home("in"), "holder")

    def test_wider(self):
        check = Unchanged(self, self.kinds)
        self.assertEqual(check.refused(Wider, self.kinds.put, "x", ["holder"], rooms=[("in", "any")]).room, "in")
        self.assertEqual(check.refused(Wider, self.kinds.put, "x", ["holder"], rooms=[("in", "holder")]).room, "in")
        self.kinds.put("tank", ["holder"], rooms=[("in", "live")])
        self.kinds.put("box", ["holder"], rooms=[("out", "red")])
        raised = refused(self, Wider, self.kinds.put, "x", ["box", "tank"], rooms=[("in", "red")])
        self.assertEqual(raised.room, "in")
        raised = refused(self, Wider, self.kinds.put, "x", ["box", "tank"], rooms=[("out", "live")])
        self.assertEqual(raised.room, "out")
        self.kinds.put("x", ["box", "tank"], rooms=[("in", "fish"), ("out", "red")])
        self.assertEqual(self.kinds.rooms("x"), [("in", "fish"), ("out", "red")])

    def test_low_of_what_ups_let(self):
        self.kinds.put("tank", ["holder"], rooms=[("in", "live")])
        self.kinds.put("case", ["holder"], rooms=[("in", "red")])
        self.kinds.put("carp", ["fish", "red"])
        self.kinds.put("vase", ["case", "tank"])
        self.assertEqual(self.kinds.let_in("vase", "in"), "carp")
        self.assertEqual(self.kinds.rooms("vase"), [("in", "carp"), ("out", "any")])
        self.assertEqual(self.kinds.told("vase"), [])

    def test_low_of_three(self):
        kinds = table(("a", "any", ""), ("b", "any", ""), ("c", "any", ""), ("ab", "a b", ""), ("all", "ab c", ""),
                      ("home", "any", "r:any"), ("ha", "home", "r:a"), ("hb", "home", "r:b"), ("hc", "home", "r:c"))
        kinds.put("three", ["ha", "hb", "hc"])
        self.assertEqual(kinds.let_in("three", "r"), "all")

    def test_no_fit(self):
        self.kinds.put("tank", ["holder"], rooms=[("in", "live"), ("out", "live")])
        self.kinds.put("case", ["holder"], rooms=[("in", "red"), ("out", "red")])
        check = Unchanged(self, self.kinds)
        self.assertEqual(check.refused(NoFit, self.kinds.put, "x", ["tank", "case"]).room, "in")
        self.assertEqual(check.refused(NoFit, self.kinds.put, "x", ["case", "tank"], rooms=[("an", "any")]).room, "in")
        self.assertEqual(refused(self, Wider, self.kinds.put, "x", ["tank", "case"], rooms=[("in", "red")]).room, "in")

    def test_first_no_fit_as_rooms_rise(self):
        kinds = table(("a", "any", ""), ("b", "any", ""), ("home", "any", "zz:any mm:any"), ("more", "home", "aa:any"),
                      ("one", "more", "zz:a mm:a aa:a"), ("other", "more", "zz:b mm:b aa:b"))
        self.assertEqual(refused(self, NoFit, kinds.put, "x", ["one", "other"]).room, "aa")

    def test_no_fit_of_a_room_that_is_not_told(self):
        self.kinds.put("carp", ["fish", "red"])
        self.kinds.put("tank", ["holder"], rooms=[("in", "live"), ("out", "thing")])
        self.kinds.put("case", ["holder"], rooms=[("in", "red"), ("out", "holder")])
        self.assertEqual(refused(self, NoFit, self.kinds.put, "x", ["tank", "case"], rooms=[("in", "carp")]).room,
                         "out")

    def test_the_new_kind_itself_is_no_low_of_what_its_ups_let(self):
        kinds = table(("a", "any", ""), ("b", "any", ""), ("home", "any", "r:any q:any"), ("ha", "home a", "r:a"),
                      ("hb", "home b", "r:b"))
        check = Unchanged(self, kinds)
        self.assertEqual(check.refused(NoFit, kinds.put, "x", ["ha", "hb"]).room, "r")
        self.assertEqual(check.refused(NoFit, kinds.put, "x", ["hb", "ha", "b"], rooms=[("q", "a")]).room, "r")
        kinds.put("ab", ["a", "b"])
        self.assertEqual(refused(self, Forked, kinds.put, "x", ["ha", "hb"]).one, "a")
        kinds.put("x", ["ha", "hb", "ab"])
        self.assertEqual(kinds.rooms("x"), [("q", "any"), ("r", "ab")])
        self.assertEqual(kinds.low("a", "b"), "ab")

    def test_the_new_kind_is_no_low_of_three(self):
        kinds = table(("a", "any", ""), ("b", "any", ""), ("c", "any", ""), ("ab", "a b", ""),
                      ("home", "any", "r:any"), ("ha", "home a", "r:a"), ("hb", "home b", "r:b"),
                      ("hc", "home c", "r:c"))
        check = Unchanged(self, kinds)
        self.assertEqual(check.refused(NoFit, kinds.put, "x", ["ha", "hb", "hc", "ab"]).room, "r")
        kinds.put("all", ["ab", "c"])
        kinds.put("x", ["ha", "hb", "hc", "all"])
        self.assertEqual(kinds.let_in("x", "r"), "all")

    def test_bad_name(self):
        check = Unchanged(self, self.kinds)
        for room in ("", "In", "ninelette", "a b"):
            self.assertEqual(check.refused(BadName, self.kinds.put, "x", rooms=[(room, "none")]).name, room)

    def test_kinds_that_were_there(self):
        check = Unchanged(self, self.kinds)
        self.assertEqual(check.refused(NoKind, self.kinds.put, "x", rooms=[("a", "none")]).name, "none")
        self.assertEqual(check.refused(NoKind, self.kinds.put, "x", rooms=[("a", "x")]).name, "x")

    def test_twice(self):
        check = Unchanged(self, self.kinds)
        self.assertEqual(check.refused(Twice, self.kinds.put, "x", rooms=[("a", "any"), ("a", "any")]).room, "a")
        raised = check.refused(Twice, self.kinds.put, "x", ["holder"], rooms=[("in", "red"), ("in", "any")])
        self.assertEqual(raised.room, "in")
        raised = check.refused(NoKind, self.kinds.put, "x", rooms=[("a", "any"), ("a", "none")])
        self.assertEqual(raised.name, "none")

    def test_strange(self):
        check = Unchanged(self, self.kinds)
        self.assertEqual(check.refused(Strange, self.kinds.put, "x", rooms=[("in", "red")]).room, "in")
        self.assertEqual(check.refused(Strange, self.kinds.put, "x", ["thing"], rooms=[("in", "any")]).room, "in")

    def test_one_pair_behind_the_other(self):
        faults = {BadName: ("B", "any"), NoKind: ("new", "none"), Twice: ("lid", "any"), Strange: ("far", "any"),
                  Wider: ("in", "any")}
        self.kinds.put("other", rooms=[("far", "any")])
        check = Unchanged(self, self.kinds)
        for first in faults:
            for second in faults:
                rooms = [("lid", "any"), faults[first], faults[second]]
                check.refused(first, self.kinds.put, "x", ["holder"], rooms=rooms)

    def test_where_a_home_goes_the_room_goes(self):
        self.kinds.put("x", rooms=[("lid", "red")])
        self.kinds.drop("x")
        refused(self, NoRoom, self.kinds.home, "lid")
        self.kinds.put("y", rooms=[("lid", "any")])
        self.assertEqual(self.kinds.home("lid"), "y")
        self.kinds.put("z", ["y"], rooms=[("lid", "red")])
        self.kinds.drop("z")
        self.assertEqual(self.kinds.home("lid"), "y")


class TestMusts(unittest.TestCase):
    def setUp(self):
        self.kinds = table(("a", "any", "r:any"), ("b", "any", "s:any"), ("c", "any", "t:any"), ("d", "any", ""))

    def must(self, name, text):
        return self.kinds.must(name, read(self.kinds, text))

    def test_must_and_free(self):
        self.assertIsNone(self.kinds.must_of("a"))
        self.assertIsNone(self.must("a", "a[r:b]"))
        self.assertEqual(str(self.kinds.must_of("a")), "a[r:b]")
        self.assertIsNone(self.kinds.must_of("b"))
        self.assertIsNone(self.kinds.free("a"))
        self.assertIsNone(self.kinds.must_of("a"))
        self.assertEqual(refused(self, NoMust, self.kinds.free, "a").name, "a")

    def test_unfit(self):
        check = Unchanged(self, self.kinds)
        check.refused(Unfit, self.must, "a", "b")
        check.refused(Unfit, self.must, "any", "a")
        check.refused(Unfit, self.kinds.must, "a", read(table(("a", "any", "q:any")), "a[q:any]"))
        self.must("a", "a")
        refused(self, Unfit, self.must, "a", "b")
        self.assertEqual(refused(self, Taken, self.must, "a", "a[r:a]").name, "a")

    def test_led_on_to_itself_in_one_step(self):
        check = Unchanged(self, self.kinds)
        for text in ("a[r:a]", "a[r:any]", "a[r:b[s:a]]"):
            self.assertEqual(check.refused(Ring, self.must, "a", text).name, "a")

    def test_a_must_of_any(self):
        self.must("any", "any")
        self.must("a", "a[r:b]")
        self.assertEqual(refused(self, Ring, self.must, "b", "b[s:a]").name, "b")

    def test_a_ring_through_the_root_is_no_ring_of_musts(self):
        self.must("a", "#1=a[r:#1]")
        self.assertEqual(str(self.kinds.must_of("a")), "#1=a[r:#1]")

    def test_led_on_in_several_steps(self):
        self.must("a", "a[r:b]")
        self.must("b", "b[s:c]")
        check = Unchanged(self, self.kinds)
        self.assertEqual(check.refused(Ring, self.must, "c", "c[t:a]").name, "c")
        self.assertEqual(check.refused(Ring, self.must, "c", "c[t:b]").name, "c")
        self.must("c", "c[t:d]")
        self.kinds.free("c")
        self.kinds.free("a")
        self.must("c", "c[t:a]")
        self.assertEqual(refused(self, Ring, self.must, "a", "a[r:b]").name, "a")

    def test_a_low_leads_on_too(self):
        self.kinds.put("ad", ["a", "d"])
        check = Unchanged(self, self.kinds)
        self.assertEqual(check.refused(Ring, self.must, "a", "a[r:d]").name, "a")
        self.assertEqual(check.refused(Ring, self.must, "a", "a[r:ad]").name, "a")

    def test_a_new_kind_may_close_a_ring(self):
        self.must("a", "a[r:d]")
        check = Unchanged(self, self.kinds)
        self.assertEqual(check.refused(Ring, self.kinds.put, "ad", ["a", "d"]).name, "ad")
        check.refused(NoKind, self.kinds.put, "ad", ["a", "d"], rooms=[("u", "none")])
        self.kinds.put("ab", ["a", "b"])

    def test_a_new_kind_may_close_a_ring_of_several_steps(self):
        self.must("a", "a[r:b]")
        self.must("b", "b[s:c]")
        self.must("c", "c[t:d]")
        check = Unchanged(self, self.kinds)
        for ups in (["a", "d"], ["d", "b"], ["c", "d"], ["d", "c", "b", "a"]):
            self.assertEqual(check.refused(Ring, self.kinds.put, "new", ups).name, "new")
        self.kinds.free("b")
        self.kinds.put("new", ["a", "d"])
        self.assertEqual(refused(self, Ring, self.must, "b", "b[s:c]").name, "b")

    def test_a_ring_goes_behind_all_other_refusals(self):
        self.must("a", "a[r:d]")
        self.kinds.put("left")
        self.kinds.put("right")
        self.kinds.put("one", ["a", "left"], rooms=[("r", "left")])
        self.kinds.put("other", ["a", "right"], rooms=[("r", "right")])
        check = Unchanged(self, self.kinds)
        self.assertEqual(check.refused(NoFit, self.kinds.put, "new", ["one", "other", "d"]).room, "r")
        self.assertEqual(check.refused(Wider, self.kinds.put, "new", ["one", "d"], rooms=[("r", "d")]).room, "r")
        self.assertEqual(check.refused(Ring, self.kinds.put, "new", ["one", "d"]).name, "new")
        self.assertEqual(check.refused(Ring, self.kinds.put, "new", ["one", "d"], rooms=[("r", "one")]).name, "new")
        check.refused(BadParts, self.kinds.put, "new", [])
        check.refused(NoKind, self.kinds.put, "new", ["a", "none", "d"])
        check.refused(Taken, self.kinds.put, "one", ["a", "d"])
        check.refused(BadName, self.kinds.put, "New", ["a", "d"])

    def test_a_must_leads_only_to_kinds_with_musts(self):
        self.must("a", "a[r:b]")
        self.kinds.put("bd", ["b", "d"])
        self.must("d", "d")
        self.assertEqual(self.kinds.names()[-1], "bd")

    def test_drop(self):
        self.assertIsNone(self.kinds.drop("b"))
        self.assertEqual(self.kinds.names(), ["any", "a", "c", "d"])
        self.kinds.put("b")
        self.assertEqual(self.kinds.names(), ["any", "a", "c", "d", "b"])
        self.assertEqual(self.kinds.rooms("b"), [])

    def test_used(self):
        self.kinds.put("low", ["a", "b"])
        self.kinds.put("letter", rooms=[("u", "d")])
        self.must("c", "c[t:letter]")
        check = Unchanged(self, self.kinds)
        for name in ("any", "a", "b", "c", "d", "letter"):
            self.assertEqual(check.refused(Used, self.kinds.drop, name).name, name)
        self.kinds.drop("low")
        self.kinds.drop("a")
        self.kinds.free("c")
        for name in ("letter", "d", "c", "b"):
            self.kinds.drop(name)
        self.assertTrue(self.kinds == Kinds())

    def test_any_is_used_even_alone(self):
        refused(self, Used, Kinds().drop, "any")

    def test_used_where_it_is_let_but_not_told(self):
        kinds = table(("a", "any", ""), ("b", "any", ""), ("ab", "a b", ""), ("home", "any", "r:any"),
                      ("ha", "home", "r:a"), ("hb", "home", "r:b"), ("hab", "ha hb", ""))
        self.assertEqual(kinds.let_in("hab", "r"), "ab")
        self.assertEqual(refused(self, Used, kinds.drop, "ab").name, "ab")
        kinds.drop("hab")
        kinds.drop("ab")
        self.assertIsNone(kinds.low("a", "b"))


class TestByWords(unittest.TestCase):
    """Random deeds, each told ahead by the points' words."""

    def setUp(self):
        self.chance = random.Random(71)
        self.counts = {}

    def check_deed(self, kinds, told, call, *given, **named):
        """Told is None where the deed is done, or the refusal's name and what it is about."""
        check = Unchanged(self, kinds)
        raised = None
        try:
            self.assertIsNone(call(*given, **named))
        except (TraitError, Missing) as error:
            raised = error.called, getattr(error, "room", getattr(error, "name", None))
            self.assertEqual(check.all_of(kinds), check.before)
        self.assertEqual(raised, told)
        called = told and told[0]
        self.counts[called] = self.counts.get(called, 0) + 1

    def choose(self, things, most, least=0):
        return [self.chance.choice(things) for count in range(self.chance.randint(least, most))]

    def random_put(self, kinds, name):
        ups = self.choose(kinds.names(), 3, 1)
        rooms = [(self.chance.choice(["r", "r", "r", "s", "t", "R"]), self.chance.choice(kinds.names() + [name]))
                 for count in self.choose("ab", 2)]
        if words.first_fork(kinds, ups) is not None:
            return
        lets = words.rooms_of_new(kinds, ups, rooms)
        told = None if isinstance(lets, dict) else lets
        if told is None and self.closes_ring(kinds, name, ups):
            told = "Ring", name
        self.check_deed(kinds, told, kinds.put, name, ups, rooms=rooms)
        if told is None:
            self.assertEqual(kinds.rooms(name), sorted(lets.items()))
            self.assertEqual(kinds.told(name), sorted(set(rooms)))

    def closes_ring(self, kinds, name, ups):
        """Tried in a table of the same order without rooms and musts."""
        bare = Kinds()
        for kind in kinds.names()[1:]:
            bare.put(kind, kinds.ups(kind))
        bare.put(name, ups)
        return bool(words.rings(bare, words.musts_of(kinds)))

    def random_must(self, kinds):
        name, root = self.chance.choice(kinds.names()), self.chance.choice(kinds.names())
        box = random_box(kinds, self.chance, self.chance.randint(1, 3), self.chance.choice([name, name, root]))
        musts = words.musts_of(kinds)
        told = None
        if box.kind() != name:
            told = "Unfit", None
        elif name in musts:
            told = "Taken", name
        elif words.rings(kinds, {**musts, name: box}):
            told = "Ring", name
        self.check_deed(kinds, told, kinds.must, name, box)

    def test_deeds(self):
        for turn in range(150):
            kinds = table(("left", "any", ""), ("right", "any", ""), ("home", "any", "r:any"),
                          ("one", "home left", "r:left"), ("other", "home right", "r:right"))
            for name in "abcdefghijkl":
                self.random_put(kinds, name)
                self.random_must(kinds)
                gone = self.chance.choice(kinds.names())
                if self.chance.random() < 0.3:
                    told = ("Used", gone) if words.needed(kinds, gone) else None
                    self.check_deed(kinds, told, kinds.drop, gone)
                if self.chance.random() < 0.1 and kinds.names().count(gone):
                    told = ("NoMust", gone) if kinds.must_of(gone) is None else None
                    self.check_deed(kinds, told, kinds.free, gone)
        for called in (None, "BadName", "NoKind", "Twice", "Strange", "Wider", "NoFit", "Ring", "Unfit", "Taken",
                       "Used", "NoMust"):
            self.assertGreater(self.counts.get(called, 0), 20, called)


class TestTables(unittest.TestCase):
    def test_len_and_repr(self):
        self.assertEqual((len(Kinds()), repr(Kinds())), (1, "Kinds(1)"))
        self.assertEqual((len(small_table()), repr(small_table())), (7, "Kinds(7)"))

    def test_equal(self):
        one, other = small_table(), small_table()
        self.assertIs(one == other, True)
        self.assertIs(one != other, False)
        one.put("x", ["word", "ring", "word"], rooms=[("b", "any"), ("a", "any")])
        other.put("x", ["ring", "word"], rooms=[("a", "any"), ("b", "any")])
        self.assertIs(one == other, True)

    def test_unequal(self):
        start = (("a", "any", ""), ("b", "any", "r:any"))
        one = table(*start, ("c", "a b", "r:a"))
        self.assertIs(one == table(*start), False)
        self.assertIs(one == table(*start, ("d", "a b", "r:a")), False)
        self.assertIs(one == table(*start, ("c", "any a b", "r:a")), False)
        self.assertIs(one == table(*start, ("c", "a b", "")), False)
        self.assertIs(one == table(*start, ("c", "a b", "r:b")), False)
        self.assertIs(one == table(start[1], start[0], ("c", "a b", "r:a")), False)
        self.assertIs(one != table(*start), True)

    def test_told_and_not_told_alike_are_unequal(self):
        one = table(("b", "any", "r:any"), ("c", "b", "r:any"))
        other = table(("b", "any", "r:any"), ("c", "b", ""))
        self.assertEqual(one.rooms("c"), other.rooms("c"))
        self.assertIs(one == other, False)

    def test_musts_count(self):
        one, other = small_table(), small_table()
        one.must("ring", read(one, "ring[on:word]"))
        self.assertIs(one == other, False)
        other.must("ring", read(other, "ring[on:noun]"))
        self.assertIs(one == other, False)
        other.free("ring")
        other.must("ring", read(other, "ring[on:word]"))
        self.assertIs(one == other, True)

    def test_equal_to_nothing_else(self):
        for thing in (None, 7, "Kinds(7)", small_table().names(), {}, object()):
            self.assertIs(small_table() == thing, False)
            self.assertIs(small_table() != thing, True)

    def test_twin(self):
        one = small_table()
        one.must("ring", read(one, "ring[on:word]"))
        check = Unchanged(self, one)
        other = one.twin()
        self.assertIsInstance(other, Kinds)
        self.assertTrue(one == other)
        self.assertEqual(check.all_of(other), check.before)
        other.free("ring")
        other.put("x", ["noun", "verb"], rooms=[("new", "any")])
        other.drop("triple")
        self.assertEqual(check.all_of(one), check.before)
        refused(self, NoRoom, one.home, "new")
        self.assertEqual(one.home("mid"), "triple")
        self.assertIsNone(one.low("noun", "verb"))
        one.put("y")
        self.assertNotIn("y", other.names())

    def test_tables_made_apart(self):
        one, other = Kinds(), Kinds()
        one.put("a", rooms=[("r", "any")])
        self.assertEqual(other.names(), ["any"])
        refused(self, NoRoom, other.home, "r")


if __name__ == "__main__":
    unittest.main()
