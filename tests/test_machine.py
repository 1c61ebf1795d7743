import random
import unittest

from tests.tables import random_box, random_table, rich_table, small_table, table
from traitmere.joins import join, rest
from traitmere.machine import compiled, run
from traitmere.texts import read


def slow_rows(nodes, number=0, met=None):
    """Point [16], word for word: a node's row, and behind each of its rooms at once all rows of what is there."""
    met = {0} if met is None else met
    kind, pairs = nodes[number]
    rows = [("kind", number, kind)]
    for room, there in sorted(pairs):
        if there in met:
            rows.append(("again", number, room, there))
        else:
            met.add(there)
            rows += [("room", number, room, there), *slow_rows(nodes, there, met)]
    return rows


class TestCompiled(unittest.TestCase):
    def setUp(self):
        self.kinds = small_table()

    def check(self, text, rows):
        self.assertEqual(compiled(read(self.kinds, text)), rows)

    def test_one_node(self):
        self.check("any", [("kind", 0, "any")])

    def test_rooms_rise(self):
        self.check("triple[left:noun mid:verb right:word]", [
            ("kind", 0, "triple"), ("room", 0, "left", 1), ("kind", 1, "noun"), ("room", 0, "mid", 2),
            ("kind", 2, "verb"), ("room", 0, "right", 3), ("kind", 3, "word")])

    def test_all_rows_of_a_node_stand_behind_its_room(self):
        self.check("pair[left:ring[on:pair[left:any right:word]] right:noun]", [
            ("kind", 0, "pair"), ("room", 0, "left", 1), ("kind", 1, "ring"), ("room", 1, "on", 2),
            ("kind", 2, "pair"), ("room", 2, "left", 3), ("kind", 3, "any"), ("room", 2, "right", 4),
            ("kind", 4, "word"), ("room", 0, "right", 5), ("kind", 5, "noun")])

    def test_shared_rooms(self):
        self.check("pair[left:#1=word right:#1]", [
            ("kind", 0, "pair"), ("room", 0, "left", 1), ("kind", 1, "word"), ("again", 0, "right", 1)])
        self.check("pair[left:ring[on:#1=noun] right:#1]", [
            ("kind", 0, "pair"), ("room", 0, "left", 1), ("kind", 1, "ring"), ("room", 1, "on", 2),
            ("kind", 2, "noun"), ("again", 0, "right", 2)])

    def test_rings(self):
        self.check("#1=ring[on:#1]", [("kind", 0, "ring"), ("again", 0, "on", 0)])
        self.check("ring[on:#1=pair[left:#1]]", [
            ("kind", 0, "ring"), ("room", 0, "on", 1), ("kind", 1, "pair"), ("again", 1, "left", 1)])

    def test_many_boxes(self):
        chance = random.Random(1)
        for count in range(300):
            box = random_box(self.kinds, chance, chance.randint(1, 9))
            self.assertEqual(compiled(box), slow_rows(box.nodes()))

    def test_told_lists_are_new(self):
        box = read(self.kinds, "pair[left:#1=word right:#1]")
        rows = compiled(box)
        rows[0] = ("kind", 0, "ring")
        rows.pop()
        self.assertEqual(len(compiled(box)), 4)
        self.assertEqual(compiled(box)[0], ("kind", 0, "pair"))
        self.assertEqual(str(box), "pair[left:#1=word right:#1]")

    def test_rows_are_tuples_in_a_list(self):
        rows = compiled(read(self.kinds, "#1=ring[on:#1]"))
        self.assertIsInstance(rows, list)
        self.assertTrue(all(isinstance(row, tuple) for row in rows))


class TestRun(unittest.TestCase):
    def check(self, one, other, text):
        """The rows of each of both, run on the other one, as lists and as tuples."""
        first, second = read(self.kinds, one), read(self.kinds, other)
        for compile_of, on in ((first, second), (second, first)):
            for rows in (compiled(compile_of), tuple(compiled(compile_of))):
                told = run(self.kinds, rows, on)
                self.assertEqual(None if told is None else str(told), text)
        told = join(self.kinds, first, second)
        self.assertEqual(None if told is None else str(told), text)

    def setUp(self):
        self.kinds = table(
            ("thing", "any", ""), ("live", "thing", ""), ("red", "thing", ""), ("carp", "live red", ""),
            ("big", "thing", ""), ("holder", "any", "in:thing out:any"), ("tank", "holder", "in:live"),
            ("loop", "any", "on:any"), ("kept", "any", "by:any"), musts=("kept[by:live]",))

    def test_kinds(self):
        self.check("live", "red", "carp")
        self.check("live", "big", None)
        self.check("any", "holder", "holder")

    def test_a_room_that_is_not_there_yet(self):
        self.check("holder[in:live]", "holder[out:big]", "holder[in:live out:big]")
        self.check("holder[in:thing]", "tank", "tank[in:live]")
        self.check("holder[in:red]", "tank", "tank[in:carp]")
        self.check("holder[in:big]", "tank", None)
        self.check("holder[out:holder[out:loop[on:red]]]", "any", "holder[out:holder[out:loop[on:red]]]")

    def test_shared_rooms_and_rings(self):
        self.check("holder[in:#1=thing out:#1]", "holder[in:live out:red]", "holder[in:#1=carp out:#1]")
        self.check("holder[in:#1=thing out:#1]", "holder[in:live]", "holder[in:#1=live out:#1]")
        self.check("holder[in:#1=thing out:#1]", "holder[in:live out:big]", None)
        self.check("#1=loop[on:#1]", "loop[on:loop[on:loop]]", "#1=loop[on:#1]")
        self.check("#1=loop[on:loop[on:#1]]", "#1=loop[on:loop[on:loop[on:#1]]]", "#1=loop[on:#1]")
        self.check("#1=loop[on:#1]", "loop[on:loop[on:thing]]", None)
        self.check("#1=loop[on:#1]", "any", "#1=loop[on:#1]")

    def test_what_can_not_be_ahead_of_rows_that_go_on(self):
        self.check("loop[on:holder[in:live out:#1=loop[on:#1]]]", "loop[on:live]", None)
        self.check("holder[in:#1=thing out:holder[in:#1 out:#1]]", "live", None)

    def test_musts(self):
        self.check("kept", "any", "kept[by:live]")
        self.check("kept[by:red]", "kept", "kept[by:carp]")
        self.check("kept[by:big]", "kept", None)
        self.check("loop[on:kept[by:big]]", "any", None)

    def test_many_pairs(self):
        chance = random.Random(2)
        answers = []
        for count in range(600):
            if count % 20 == 0:
                kinds = rich_table() if count % 40 else random_table(chance)
            one, other = (random_box(kinds, chance, chance.randint(1, 7)) for each in "ab")
            told = join(kinds, one, other)
            self.assertEqual(run(kinds, compiled(one), other), told)
            self.assertEqual(run(kinds, compiled(other), one), told)
            self.assertEqual(run(kinds, compiled(one), one), rest(kinds, one))
            answers.append(told is not None)
        self.assertGreater(min(answers.count(True), answers.count(False)), 100)

    def test_long_chains(self):
        many = 3000
        box = read(self.kinds, "loop[on:" * many + "live" + "]" * many)
        rows = compiled(box)
        self.assertEqual(len(rows), 2 * many + 1)
        self.assertEqual(run(self.kinds, rows, read(self.kinds, "any")), box)
        self.assertIsNone(run(self.kinds, rows, read(self.kinds, "#1=loop[on:#1]")))

    def test_what_is_handed_in_stays(self):
        kinds = self.kinds.twin()
        rows = compiled(read(kinds, "holder[in:#1=thing out:#1]"))
        again = list(rows)
        box = read(kinds, "holder[in:live out:red]")
        run(kinds, rows, box)
        self.assertEqual(rows, again)
        self.assertEqual(kinds, self.kinds)
        self.assertEqual(str(box), "holder[in:live out:red]")

    def test_calls_by_keyword(self):
        rows = compiled(box=read(self.kinds, "live"))
        self.assertEqual(str(run(box=read(self.kinds, "red"), rows=rows, kinds=self.kinds)), "carp")


if __name__ == "__main__":
    unittest.main()
