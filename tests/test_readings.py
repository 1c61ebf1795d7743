import itertools
import random
import unittest

from tests import words
from tests.tables import random_box, random_grammar, refused, speech_grammar, table
from traitmere.boxes import Box
from traitmere.chart import WHOLE
from traitmere.errors import BadMost, BadRow, NoMeaning, NoWord
from traitmere.grammar import Grammar
from traitmere.joins import join
from traitmere.texts import read
from traitmere.walks import at_rest


class ReadingCase(unittest.TestCase):
    def setUp(self):
        self.grammar = speech_grammar()

    def box(self, text):
        return read(self.grammar.kinds(), text)

    def check(self, row, *told, goal=None):
        """The readings' texts and numbers, of a row told as a text, by lists and by tuples."""
        for given in (row.split(), tuple(row.split())):
            if goal is None:
                found = self.grammar.readings(given)
                self.assertEqual(self.grammar.readings(given, goal=None), found)
            else:
                found = self.grammar.readings(given, goal=self.box(goal))
            self.assertIsInstance(found, list)
            self.assertTrue(all(isinstance(pair, tuple) and isinstance(pair[0], Box) for pair in found))
            self.assertEqual([(str(box), many) for box, many in found], list(told))


class TestReadings(ReadingCase):
    def test_one_word(self):
        self.check("dog", ("thing[num:one]", 1))
        self.check("run", ("deed[num:many]", 1), ("thing[num:one]", 1))

    def test_two_words(self):
        self.check("the dogs", ("name[num:many]", 1))
        self.check("a dog", ("name[num:one]", 1))
        self.check("the run", ("name[num:one]", 1))
        self.check("a dogs")
        self.check("dog the")
        self.check("dog dog")

    def test_three_words(self):
        self.check("the dogs run", ("told[does:deed[num:#1=many] who:name[num:#1]]", 1))
        self.check("a dog runs", ("told[does:deed[num:#1=one] who:name[num:#1]]", 1))
        self.check("the dog run")
        self.check("the run runs", ("told[does:deed[num:#1=one] who:name[num:#1]]", 1))

    def test_rules_of_three_parts(self):
        self.grammar.word("mm", self.box("mark"))
        self.check("mm the dogs run mm", ("told[does:deed[num:#1=many] who:name[num:#1]]", 1))
        self.check("mm mm mm")
        self.check("mm the dogs run")

    def test_whole_is_told_alone(self):
        self.assertEqual(WHOLE, "whole")
        self.check("the dog", ("name[num:one]", 1))

    def test_rows_up_to_six_words(self):
        kinds = table(("leaf", "any", ""), ("pair", "any", "left:any right:any"),
                      ("made", "any", "a:any b:any c:any whole:any"))
        self.grammar = Grammar(kinds)
        self.grammar.word("x", self.box("leaf"))
        self.grammar.rule("two", self.box("made[a:any b:any whole:leaf]"), ["a", "b"])
        # The numbers of ways to put brackets.
        for many, ways in enumerate((1, 1, 2, 5, 14, 42), start=1):
            self.check(" ".join("x" * many), ("leaf", ways))
        self.grammar.rule("three", self.box("made[a:any b:any c:any whole:leaf]"), ["a", "b", "c"])
        for many, ways in enumerate((1, 1, 3, 10, 38, 154), start=1):
            self.check(" ".join("x" * many), ("leaf", ways))
        self.grammar.unrule("two")
        for many, ways in enumerate((1, 0, 1, 0, 3, 0), start=1):
            self.check(" ".join("x" * many), *[("leaf", ways)] * (ways > 0))
        self.grammar.unrule("three")
        self.grammar.rule("pair", self.box("made[a:#1=any b:#2=any whole:pair[left:#1 right:#2]]"), ["a", "b"])
        for many, ways in enumerate((1, 1, 2, 5, 14, 42), start=1):
            found = self.grammar.readings("x" * many)
            self.assertEqual(([trees for box, trees in found], len({str(box) for box, trees in found})),
                             ([1] * ways, ways))

    def test_parts_are_taken_in_their_order(self):
        self.grammar = Grammar(table(("x", "any", ""), ("y", "any", ""), ("pair", "any", "left:any right:any"),
                                     ("made", "any", "a:any b:any c:any whole:any")))
        self.grammar.word("x", self.box("x"))
        self.grammar.word("y", self.box("y"))
        rule = self.box("made[a:#1=any b:#2=any whole:pair[left:#1 right:#2]]")
        self.grammar.rule("on", rule, ["a", "b"])
        self.check("x y", ("pair[left:x right:y]", 1))
        self.grammar.rule("back", rule, ["b", "a"])
        self.check("x y", ("pair[left:x right:y]", 1), ("pair[left:y right:x]", 1))
        self.check("x x", ("pair[left:x right:x]", 2))

    def test_readings_are_copies_for_themselves(self):
        self.grammar = Grammar(table(("x", "any", "on:any"), ("pair", "any", "left:any right:any"),
                                     ("made", "any", "a:any b:any c:any whole:any")))
        self.grammar.word("x", self.box("#1=x[on:#1]"))
        self.grammar.rule("pair", self.box("made[a:#1=any b:#2=any whole:pair[left:#1 right:#2]]"), ["a", "b"])
        self.check("x x", ("pair[left:#1=x[on:#1] right:#2=x[on:#2]]", 1))
        self.grammar.rule("same", self.box("made[a:#1=any b:#1 whole:pair[left:#1 right:#1]]"), ["a", "b"])
        self.check("x x", ("pair[left:#1=x[on:#1] right:#1]", 1), ("pair[left:#1=x[on:#1] right:#2=x[on:#2]]", 1))

    def test_a_part_and_whole_may_be_one(self):
        self.grammar = Grammar(table(("x", "any", "on:any"), ("y", "any", ""),
                                     ("made", "any", "a:any b:any c:any whole:any")))
        for name in "xy":
            self.grammar.word(name, self.box(name))
        self.grammar.rule("first", self.box("made[a:#1=any b:y whole:#1]"), ["a", "b"])
        self.check("x y", ("x", 1))
        self.check("x y y", ("x", 2))
        self.check("x x")
        self.grammar.rule("ring", self.box("#1=made[a:#2=x[on:#1] b:any whole:#2]"), ["a", "b"])
        self.check("x y", ("#1=x[on:made[a:#1 b:y whole:#1]]", 1), ("x", 1))

    def test_what_rules_make_is_led_to_rest(self):
        self.grammar = Grammar(table(("x", "any", ""), ("y", "any", ""), ("red", "x", ""), ("big", "x", ""),
                                     ("both", "red big", "by:any"), ("made", "any", "a:any b:any whole:any"),
                                     musts=("both[by:y]",)))
        for name in ("red", "big", "both"):
            self.grammar.word(name, self.box(name))
        self.grammar.rule("r", self.box("made[a:#1=x b:#1 whole:#1]"), ["a", "b"])
        self.check("red red", ("red", 1))
        self.check("red big", ("both[by:y]", 1))
        self.check("both", ("both[by:y]", 1))
        self.check("red big both", ("both[by:y]", 2))
        self.grammar.word("none", self.box("y"))
        self.check("none big")

    def test_for_a_goal(self):
        self.check("run", ("deed[num:many]", 1), goal="deed")
        self.check("run", ("thing[num:one]", 1), goal="phrase[num:one]")
        self.check("run", ("deed[num:many]", 1), ("thing[num:one]", 1), goal="phrase[num:num]")
        self.check("run", goal="pick")
        self.check("the dogs run", ("told[does:deed[num:#1=many] who:name[num:#1]]", 1), goal="asked")
        self.check("the dogs run", goal="told[who:name[num:one]]")

    def test_a_goal_that_has_no_rest(self):
        self.check("the dogs run", goal="told[does:deed[num:one] who:name[num:many]]")
        self.check("run", goal="told[does:deed[num:one] who:name[num:many]]")

    def test_refusals(self):
        for row in ([], (), ["dog"] * 7, ["no"] * 7, "the dog the dog the dog the".split()):
            for call in (self.grammar.readings, lambda row: self.grammar.tree(row, self.box("any")),
                         lambda row: self.grammar.is_tree(row, self.box("any"), "")):
                self.assertEqual(refused(self, BadRow, call, row).called, "BadRow")
        for row, name in ((["no"], "no"), (["dog", "no", "none"], "no"), (["", "dog"], ""), (["Dog"], "Dog")):
            for call in (self.grammar.readings, lambda row: self.grammar.tree(row, self.box("any")),
                         lambda row: self.grammar.is_tree(row, self.box("any"), "")):
                self.assertEqual(refused(self, NoWord, call, row).name, name)
        self.assertEqual(self.grammar.kept(), [])

    def test_told_lists_are_new(self):
        row = ["the", "dog"]
        told = self.grammar.readings(row)
        told.clear()
        row.clear()
        self.check("the dog", ("name[num:one]", 1))
        self.assertEqual(self.grammar.kept(), [("the", "dog")])

    def test_calls_by_keyword(self):
        box = self.box("name[num:one]")
        self.assertEqual(self.grammar.readings(goal=box, row=["a", "dog"]), [(box, 1)])
        self.assertEqual(self.grammar.tree(box=box, row=["a", "dog"]), "(name a.0 dog.0)")
        self.assertIs(self.grammar.is_tree(text="(name a.0 dog.0)", box=box, row=("a", "dog")), True)
        self.assertEqual(self.grammar.said(most=1, goal=box), [])


class TestTrees(ReadingCase):
    def check_tree(self, row, box, text):
        self.assertEqual(self.grammar.tree(row.split(), self.box(box)), text)
        self.assertEqual(self.grammar.tree(tuple(row.split()), self.box(box)), text)
        self.check_is(row, box, text, True)

    def check_is(self, row, box, text, answer):
        for given in (row.split(), tuple(row.split())):
            self.assertIs(self.grammar.is_tree(given, self.box(box), text), answer, text)

    def test_words(self):
        self.check_tree("dog", "thing[num:one]", "dog.0")
        self.check_tree("run", "thing[num:one]", "run.1")
        self.check_tree("run", "deed[num:many]", "run.0")

    def test_rules(self):
        self.check_tree("the dogs", "name[num:many]", "(name the.0 dogs.0)")
        self.check_tree("the run", "name[num:one]", "(name the.0 run.1)")
        self.check_tree("the dogs run", "told[does:deed[num:#1=many] who:name[num:#1]]",
                        "(tell (name the.0 dogs.0) run.0)")
        self.grammar.word("mm", self.box("mark"))
        self.check_tree("mm the run runs mm", "told[does:deed[num:#1=one] who:name[num:#1]]",
                        "(bare mm.0 (tell (name the.0 run.1) runs.0) mm.0)")

    def test_no_meaning(self):
        for row, box in (("dog", "thing"), ("dog", "thing[num:many]"), ("a dogs", "any"), ("the dog", "name")):
            refusal = refused(self, NoMeaning, self.grammar.tree, row.split(), self.box(box))
            self.assertEqual(refusal.called, "NoMeaning")
        other = table(("cat", "any", ""))
        refused(self, NoMeaning, self.grammar.tree, ["dog"], read(other, "cat"))
        self.assertIs(self.grammar.is_tree(["dog"], read(other, "cat"), "dog.0"), False)

    def test_boxes_of_another_table_may_be_alike(self):
        other = table(("num", "any", ""), ("one", "num", ""), ("thing", "any", "num:any"))
        self.assertEqual(self.grammar.tree(["dog"], read(other, "thing[num:one]")), "dog.0")
        self.assertIs(self.grammar.is_tree(["dog"], read(other, "thing[num:one]"), "dog.0"), True)

    def test_no_trees(self):
        for text in ("", "dog", "dog.", "dog.00", "dog.1", "dog.-1", "dog.0 ", " dog.0", "dog.0\n", "(dog.0)", "dog.0)",
                     "(dog.0", "dogs.0", ".0", "dog.+0", "Dog.0", "dog..0", "dog.0 dog.0", "( dog.0)", "dog.0.0"):
            self.check_is("dog", "thing[num:one]", text, False)

    def test_no_trees_of_rules(self):
        good = "(tell (name the.0 dogs.0) run.0)"
        box = "told[does:deed[num:#1=many] who:name[num:#1]]"
        self.check_is("the dogs run", box, good, True)
        for text in (
                "(tell (name the.0 dogs.0) run.1)", "(tell (name the.0 dogs.0) run.0",
                "tell (name the.0 dogs.0) run.0)", "(tell (name the.0 dogs.0)  run.0)",
                "(tell(name the.0 dogs.0) run.0)", "(tell (name the.0 dogs.0)run.0)",
                "(tell ((name the.0 dogs.0)) run.0)", "(tell the.0 (name dogs.0 run.0))", "(tell the.0 dogs.0 run.0)",
                "(bare the.0 dogs.0 run.0)", "(name (name the.0 dogs.0) run.0)", "(tell (tell the.0 dogs.0) run.0)",
                "(no (name the.0 dogs.0) run.0)", "( (name the.0 dogs.0) run.0)", "(tell (name dogs.0 the.0) run.0)",
                "(tell (name the.0 dog.0) runs.0)", "(tell (name the.0 dogs.0) run.0) ",
                "(tell (name the.0 dogs.0) run.0 )", "(tell (name the.0 dogs.0) run.0))",
                "((tell (name the.0 dogs.0) run.0)", "(tell (name the.0) dogs.0 run.0)",
                "(tell (name the.0 dogs.0) run.0 run.0)", "(tell run.0 (name the.0 dogs.0))",
                "(name the.0 dogs.0) run.0", "(name the.0 dogs.0)", "the.0 dogs.0 run.0", "(tell (name the.0 dogs.0))",
                "(TELL (name the.0 dogs.0) run.0)", "()", "(", ")", "(tell", "(tell )", "\n" + good, good + "\n",
                good.replace(" ", "\n"), good * 2, f"{good} {good}"):
            self.check_is("the dogs run", box, text, False)
            self.assertNotIn(text, [tree for tree, each in words.trees(self.grammar, "the dogs run".split())])
        self.check_is("the dogs run", "told", good, False)
        self.check_is("the dogs run", "any", good, False)
        self.check_is("the dogs", box, good, False)
        self.check_is("the dogs run run", box, good, False)
        self.check_is("the dog runs", box, good, False)

    def test_texts_that_begin_with_a_tree_of_the_box(self):
        for text in ("dog.0 (name", "dog.0 (", "(name dog.0", "dog.0 (name "):
            self.check_is("dog", "thing[num:one]", text, False)
        for text in ("the.0 dogs.0", "the.0 (name dogs.0", "(name the.0 dogs.0) (name"):
            self.check_is("the dogs", "pick", text, False)
            self.check_is("the dogs", "name[num:many]", text, False)

    def test_rules_of_more_or_fewer_parts(self):
        box = "told[does:deed[num:#1=many] who:name[num:#1]]"
        self.check_is("the dogs run run", box, "(tell (name the.0 dogs.0) run.0 run.0)", False)
        self.check_is("the dogs run", box, "(tell (name the.0 dogs.0 run.0))", False)
        self.grammar.word("mm", self.box("mark"))
        self.check_is("mm the dogs run mm", box, "(bare mm.0 (tell (name the.0 dogs.0) run.0) mm.0)", True)
        self.check_is("mm the dogs run", box, "(bare mm.0 (tell (name the.0 dogs.0) run.0))", False)

    def test_texts_of_very_many_brackets(self):
        for text in ("(" * 50000, "(tell " * 50000, "dog.0" + ")" * 50000, "(tell " * 9000 + "dog.0" + ")" * 9000):
            self.check_is("dog", "thing[num:one]", text, False)


class TestSaid(ReadingCase):
    def check_said(self, goal, most, *rows):
        told = self.grammar.said(self.box(goal), most=most)
        self.assertEqual(told, [tuple(row.split()) for row in rows])
        self.assertTrue(all(isinstance(row, tuple) for row in told))

    def test_rows(self):
        self.check_said("told", 3, "a dog runs", "a run runs", "the dog runs", "the dogs run", "the run runs")
        self.check_said("told", 2)
        self.check_said("name[num:one]", 2, "a dog", "a run", "the dog", "the run")
        self.check_said("phrase[num:many]", 1, "dogs", "run", "the")
        self.check_said("phrase[num:many]", 2, "dogs", "run", "the", "the dogs")
        self.check_said("mark", 3)

    def test_most_left_out_is_three(self):
        self.grammar.rule("again", self.box("made[a:any b:#1=told whole:#1]"), ["b", "a"])
        many = [len(self.grammar.said(self.box("told"), most=most)) for most in (1, 2, 3, 4)]
        self.assertEqual(many, [0, 0, 5, 5 + 5 * 6])
        self.assertEqual(self.grammar.said(self.box("told")), self.grammar.said(self.box("told"), most=3))

    def test_four_words(self):
        self.grammar.rule("again", self.box("made[a:any b:told whole:mark]"), ["b", "a"])
        self.check_said("mark", 3)
        self.assertEqual(len(self.grammar.said(self.box("mark"), most=4)), 5 * 6)

    def test_bad_most(self):
        for most in (0, 5, -1, 99, 10 ** 5000):
            self.assertEqual(refused(self, BadMost, self.grammar.said, self.box("any"), most=most).most, most)

    def test_nothing_is_kept(self):
        self.grammar.said(self.box("told"))
        self.grammar.tree(["dog"], self.box("thing[num:one]"))
        self.grammar.is_tree(["dog"], self.box("thing[num:one]"), "dog.0")
        self.assertEqual(self.grammar.kept(), [])

    def test_a_grammar_without_words(self):
        self.grammar = Grammar(self.grammar.kinds())
        self.check_said("any", 4)

    def test_told_lists_are_new(self):
        self.grammar.said(self.box("told")).clear()
        self.assertEqual(len(self.grammar.said(self.box("told"))), 5)


class TestManyGrammars(unittest.TestCase):
    """Small grammars, by going through all trees one by one."""

    def rows_of(self, grammar, most):
        return [row for many in range(1, most + 1) for row in itertools.product(grammar.words(), repeat=many)]

    def check_row(self, grammar, row, chance):
        """A row's readings, their numbers, and some of their trees, each with some of the readings."""
        told = grammar.readings(row)
        trees = words.trees(grammar, row)
        texts = [str(box) for text, box in trees]
        self.assertEqual([(str(box), many) for box, many in told],
                         [(text, texts.count(text)) for text in sorted(set(texts))])
        self.assertTrue(all(at_rest(grammar.kinds(), box) for box, many in told))
        for box, many in chance.sample(told, min(len(told), 5)):
            self.assertIn((grammar.tree(row, box), box), trees)
        for text, box in chance.sample(trees, min(len(trees), 8)):
            self.assertIs(grammar.is_tree(row, box, text), True)
            for each, many in chance.sample(told, min(len(told), 5)):
                self.assertIs(grammar.is_tree(row, each, text), each == box)
        return told

    def test_readings_and_trees(self):
        chance = random.Random(8)
        several = 0
        for count in range(40):
            grammar = random_grammar(chance, 2, 2)
            for row in self.rows_of(grammar, 3):
                told = self.check_row(grammar, row, chance)
                several += any(many > 1 for box, many in told) and len(told) > 1
        self.assertGreater(several, 20)

    RULES = (("made[a:#1=any b:#2=any whole:pair[left:#1 right:#2]]", "ab"), ("made[a:#1=any b:any whole:#1]", "ba"),
             ("made[a:#1=x b:#1 whole:#1]", "ab"),
             ("made[a:pair[left:#1=any] b:#2=any whole:pair[left:#2 right:#1]]", "ab"),
             ("made[a:#1=any b:#2=any c:#1 whole:pair[left:#1 right:#2]]", "abc"),
             ("made[a:x b:#1=any c:any whole:#1]", "bca"), ("#1=made[a:#2=any b:x whole:pair[left:#2 right:#1]]", "ab"))

    def test_long_rows(self):
        chance = random.Random(9)
        kinds = table(("x", "any", ""), ("red", "x", ""), ("big", "x", ""), ("both", "red big", "by:any"),
                      ("y", "any", ""), ("pair", "any", "left:any right:any"),
                      ("made", "any", "a:any b:any c:any whole:any"), musts=("both[by:y]",))
        made = 0
        for count in range(20):
            grammar = Grammar(kinds)
            for name, text in (("u", "red"), ("v", "big"), ("w", "pair[left:#1=x right:#1]")):
                grammar.word(name, read(kinds, text))
            for name, (text, parts) in zip("kl", chance.sample(self.RULES, 2)):
                grammar.rule(name, read(kinds, text), list(parts))
            for many in (4, 5):
                made += len(self.check_row(grammar, [chance.choice("uvw") for each in range(many)], chance))
            grammar.unrule("l")
            made += len(self.check_row(grammar, [chance.choice("uvw") for each in range(6)], chance))
        self.assertGreater(made, 60)

    def test_readings_for_a_goal(self):
        chance = random.Random(10)
        fewer = 0
        for count in range(40):
            grammar = random_grammar(chance, 2, 3)
            kinds = grammar.kinds()
            for row in self.rows_of(grammar, 2):
                goal = random_box(kinds, chance, chance.randint(1, 3))
                told = grammar.readings(row, goal=goal)
                full = grammar.readings(row)
                self.assertEqual(told, [(box, many) for box, many in full if join(kinds, box, goal) is not None])
                fewer += 0 < len(told) < len(full)
        self.assertGreater(fewer, 10)

    def test_said(self):
        chance = random.Random(11)
        lengths = set()
        for count in range(30):
            grammar = random_grammar(chance, 2, 2)
            goal = random_box(grammar.kinds(), chance, chance.randint(1, 3))
            for most in (1, 2, 3, 4) if len(words.said(grammar, goal, 2)) < 4 else (1, 2, 3):
                told = grammar.said(goal, most=most)
                self.assertEqual(told, words.said(grammar, goal, most))
                self.assertEqual(told, [row for row in sorted(self.rows_of(grammar, most))
                                        if grammar.readings(row, goal=goal)])
                lengths |= {len(row) for row in told}
        self.assertEqual(lengths, {1, 2, 3, 4})


if __name__ == "__main__":
    unittest.main()
