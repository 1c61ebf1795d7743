import copy
import random
import unittest

from tests.tables import SPEECH_RULES, all_of, random_box, random_table, refused, speech_grammar, speech_table, table
from traitmere.boxes import Box, fits
from traitmere.errors import BadName, BadParts, Full, Missing, NoMeaning, NoRest, NoRule, NothingLeft, NoWord, Taken
from traitmere.errors import TraitError, Unfit
from traitmere.grammar import MOST_RULES, MOST_WORDS, Grammar
from traitmere.joins import rest
from traitmere.kinds import Kinds
from traitmere.pages import grammar_page
from traitmere.texts import read

NAME_RULE = SPEECH_RULES[0][1]


class GrammarCase(unittest.TestCase):
    def setUp(self):
        self.kinds = speech_table()
        self.grammar = Grammar(self.kinds)

    def box(self, text):
        return read(self.kinds, text)

    def refuse(self, error, call, *given):
        """Refused, and all is as it was; tells the refusal."""
        ahead = all_of(self.grammar)
        refusal = refused(self, error, call, *given)
        self.assertEqual(refusal.called, error.__name__)
        self.assertEqual(all_of(self.grammar), ahead)
        return refusal

    def check_words(self, *words):
        """Pairs of a word and its meanings' texts."""
        self.assertEqual([(name, [str(box) for box in self.grammar.meanings(name)]) for name in self.grammar.words()],
                         [(name, texts) for name, *texts in words])
        self.assertEqual(len(self.grammar), len(words))


class TestWords(GrammarCase):
    def test_words_and_meanings_as_they_came(self):
        for name, text in (("run", "thing"), ("dog", "thing[num:one]"), ("run", "deed"), ("a", "pick")):
            self.assertIsNone(self.grammar.word(name, self.box(text)))
        self.check_words(("run", "thing", "deed"), ("dog", "thing[num:one]"), ("a", "pick"))
        self.assertTrue(all(isinstance(box, Box) for box in self.grammar.meanings("run")))

    def test_boxes_are_led_to_rest(self):
        self.grammar.word("tell", self.box("told[who:name[num:one]]"))
        self.check_words(("tell", "told[does:deed[num:#1=one] who:name[num:#1]]"))

    def test_bad_names(self):
        for name in ("", "Dog", "dogdogdog", "d g", "dog1", "\n", "dog\n", " "):
            self.assertEqual(self.refuse(BadName, self.grammar.word, name, self.box("any")).name, name)
        self.grammar.word("dogdogdo", self.box("any"))
        self.grammar.word("whole", self.box("any"))

    def test_unfit(self):
        other = table(("cat", "any", ""))
        self.refuse(Unfit, self.grammar.word, "cat", read(other, "cat"))
        wide = table(("phrase", "any", "num:any"))
        self.refuse(Unfit, self.grammar.word, "cat", read(wide, "phrase[num:any]"))

    def test_no_rest(self):
        self.refuse(NoRest, self.grammar.word, "x", self.box("told[does:deed[num:one] who:name[num:many]]"))

    def test_taken(self):
        self.grammar.word("x", self.box("told[does:deed[num:#1=num] who:name[num:#1]]"))
        for text in ("told[does:deed[num:#1=num] who:name[num:#1]]", "told", "told[who:name]"):
            self.assertEqual(self.refuse(Taken, self.grammar.word, "x", self.box(text)).name, "x")
        self.grammar.word("y", self.box("told"))

    def test_three_meanings(self):
        for text in ("num", "one", "many"):
            self.grammar.word("x", self.box(text))
        self.refuse(Full, self.grammar.word, "x", self.box("any"))
        self.grammar.word("y", self.box("any"))
        self.grammar.unword("x", self.box("num"))
        self.grammar.word("x", self.box("any"))
        self.check_words(("x", "one", "many", "any"), ("y", "any"))

    def test_twelve_words(self):
        self.assertEqual(MOST_WORDS, 12)
        for name in "abcdefghijkl":
            self.grammar.word(name, self.box("any"))
        self.refuse(Full, self.grammar.word, "m", self.box("any"))
        self.grammar.word("l", self.box("num"))
        self.grammar.unword("c", self.box("any"))
        self.grammar.word("m", self.box("any"))
        self.refuse(Full, self.grammar.word, "c", self.box("any"))
        self.assertEqual(self.grammar.words(), list("abdefghijklm"))

    def test_which_refusal_goes_first(self):
        other = read(table(("cat", "any", "")), "cat")
        none = self.box("told[does:deed[num:one] who:name[num:many]]")
        for text in ("num", "one", "many"):
            self.grammar.word("x", self.box(text))
        self.refuse(BadName, self.grammar.word, "X", other)
        self.refuse(BadName, self.grammar.word, "X", none)
        self.refuse(Unfit, self.grammar.word, "x", other)
        self.refuse(NoRest, self.grammar.word, "x", none)
        self.refuse(Taken, self.grammar.word, "x", self.box("one"))
        for name in "abcdefghijk":
            self.grammar.word(name, self.box("any"))
        self.refuse(Taken, self.grammar.word, "a", self.box("any"))
        self.refuse(BadName, self.grammar.word, "", self.box("any"))
        self.refuse(NoRest, self.grammar.word, "m", none)
        self.refuse(Full, self.grammar.word, "m", self.box("any"))

    def test_unword(self):
        for text in ("num", "one"):
            self.grammar.word("x", self.box(text))
        self.grammar.word("y", self.box("num"))
        self.assertIsNone(self.grammar.unword("x", self.box("num")))
        self.check_words(("x", "one"), ("y", "num"))
        self.grammar.unword("x", self.box("one"))
        self.check_words(("y", "num"))
        self.grammar.word("x", self.box("one"))
        self.check_words(("y", "num"), ("x", "one"))

    def test_no_word_and_no_meaning(self):
        self.grammar.word("x", self.box("told"))
        for name in ("y", "", "X"):
            self.assertEqual(self.refuse(NoWord, self.grammar.unword, name, self.box("any")).name, name)
            self.assertEqual(self.refuse(NoWord, self.grammar.meanings, name).name, name)
        self.refuse(NoMeaning, self.grammar.unword, "x", self.box("any"))
        # What is taken away is looked for as it is, and not led to its rest.
        self.refuse(NoMeaning, self.grammar.unword, "x", self.box("told"))
        self.refuse(NoMeaning, self.grammar.unword, "x", read(table(("cat", "any", "")), "cat"))
        self.grammar.unword("x", self.box("told[does:deed[num:#1=num] who:name[num:#1]]"))
        self.check_words()

    def test_a_like_box_of_another_table(self):
        self.grammar.word("x", self.box("num"))
        self.grammar.unword("x", read(table(("num", "any", "")), "num"))
        self.check_words()

    def test_told_lists_are_new(self):
        self.grammar.word("x", self.box("num"))
        self.grammar.words().clear()
        self.grammar.meanings("x").clear()
        self.check_words(("x", "num"))


class TestRules(GrammarCase):
    def rule(self, name, text, parts):
        return self.grammar.rule(name, self.box(text), parts)

    def test_rules_as_they_came(self):
        self.assertIsNone(self.rule("two", NAME_RULE, ["a", "b"]))
        self.rule("again", NAME_RULE, ("b", "a"))
        self.rule("abc", "made[a:any b:any c:any whole:any]", ["c", "a", "b"])
        self.assertEqual(self.grammar.rules(), ["two", "again", "abc"])
        self.assertEqual(self.grammar.rule_of("two"), (self.box(NAME_RULE), ["a", "b"]))
        self.assertEqual(self.grammar.rule_of("again"), (self.box(NAME_RULE), ["b", "a"]))
        self.assertEqual(self.grammar.rule_of("abc")[1], ["c", "a", "b"])
        self.assertIsInstance(self.grammar.rule_of("two"), tuple)
        self.assertIsInstance(self.grammar.rule_of("again")[1], list)
        self.assertEqual(len(self.grammar), 0)

    def test_boxes_are_led_to_rest(self):
        self.rule("r", "made[a:any b:any whole:told]", ["a", "b"])
        self.assertEqual(str(self.grammar.rule_of("r")[0]),
                         "made[a:any b:any whole:told[does:deed[num:#1=num] who:name[num:#1]]]")

    def test_bad_names_and_taken(self):
        for name in ("", "Rule", "rulerulex", "a b"):
            self.assertEqual(self.refuse(BadName, self.rule, name, NAME_RULE, ["a", "b"]).name, name)
        self.rule("r", NAME_RULE, ["a", "b"])
        self.assertEqual(self.refuse(Taken, self.rule, "r", NAME_RULE, ["b", "a"]).name, "r")
        self.rule("any", NAME_RULE, ["a", "b"])

    def test_six_rules(self):
        self.assertEqual(MOST_RULES, 6)
        for name in "klmnop":
            self.rule(name, NAME_RULE, ["a", "b"])
        self.refuse(Full, self.rule, "q", NAME_RULE, ["a", "b"])
        self.grammar.unrule("m")
        self.rule("q", NAME_RULE, ["a", "b"])
        self.assertEqual(self.grammar.rules(), list("klnopq"))
        self.refuse(Full, self.rule, "m", NAME_RULE, ["a", "b"])

    def test_unfit(self):
        other = table(("cat", "any", "a:any b:any whole:any"))
        self.refuse(Unfit, self.grammar.rule, "r", read(other, "cat[a:any b:any whole:any]"), ["a", "b"])

    def test_bad_parts(self):
        full = "made[a:any b:any c:any whole:any]"
        for parts in ([], ["a"], ["a", "a"], ["a", "b", "a"], ["a", "whole"], ["whole", "a", "b"], ["a", "d"],
                      ["a", ""], ["a", "b", "c", "whole"], ["a", "b", "c", "a"], ["a", "b", "c", "d"],
                      ["a", "b", "no"], ["A", "b"], ["whole", "whole"], (), ("a",)):
            self.refuse(BadParts, self.rule, "r", full, parts)
        for text in ("made[a:any b:any]", "made[a:any whole:any]", "made", "any", "phrase[num:num]"):
            self.refuse(BadParts, self.rule, "r", text, ["a", "b"])
        self.rule("r", full, ["a", "b"])

    def test_four_parts(self):
        self.kinds = table(("four", "any", "a:any b:any c:any d:any whole:any"))
        self.grammar = Grammar(self.kinds)
        self.refuse(BadParts, self.rule, "r", "four[a:any b:any c:any d:any whole:any]", ["a", "b", "c", "d"])
        self.rule("r", "four[a:any b:any c:any d:any whole:any]", ["d", "b", "c"])

    def test_rooms_are_those_of_the_box_as_it_is_handed_in(self):
        self.kinds = table(("x", "any", ""), ("made", "any", "a:any b:any c:any whole:any"), ("full", "made", ""),
                           musts=("full[a:x b:x c:x whole:x]",))
        self.grammar = Grammar(self.kinds)
        for text, parts in (("full", ["a", "b"]), ("full[a:any whole:any]", ["a", "b"]),
                            ("full[a:any b:any]", ["a", "b"]), ("full[a:any b:any whole:any]", ["a", "b", "c"])):
            self.refuse(BadParts, self.rule, "r", text, parts)
        self.rule("r", "full[a:any b:any whole:any]", ["a", "b"])
        self.assertEqual(str(self.grammar.rule_of("r")[0]), "full[a:x b:x c:x whole:x]")

    def test_no_rest(self):
        self.refuse(NoRest, self.rule, "r", "made[a:any b:any whole:told[does:deed[num:one] who:name[num:many]]]",
                    ["a", "b"])

    def test_which_refusal_goes_first(self):
        other = read(table(("cat", "any", "")), "cat")
        none = self.box("made[a:any b:any whole:told[does:deed[num:one] who:name[num:many]]]")
        self.refuse(BadName, self.grammar.rule, "", other, [])
        self.refuse(Unfit, self.grammar.rule, "r", other, [])
        self.refuse(BadParts, self.grammar.rule, "r", none, ["a"])
        self.rule("r", NAME_RULE, ["a", "b"])
        self.refuse(Taken, self.grammar.rule, "r", other, [])
        for name in "klmno":
            self.rule(name, NAME_RULE, ["a", "b"])
        self.refuse(BadName, self.grammar.rule, "R", other, [])
        self.refuse(Taken, self.grammar.rule, "r", none, [])
        self.refuse(Full, self.grammar.rule, "x", other, [])

    def test_unrule(self):
        self.rule("r", NAME_RULE, ["a", "b"])
        self.rule("s", NAME_RULE, ["a", "b"])
        for name in ("t", "", "R"):
            self.assertEqual(self.refuse(NoRule, self.grammar.unrule, name).name, name)
            self.assertEqual(self.refuse(NoRule, self.grammar.rule_of, name).name, name)
        self.assertIsNone(self.grammar.unrule("r"))
        self.assertEqual(self.grammar.rules(), ["s"])
        self.rule("r", NAME_RULE, ["a", "b"])
        self.assertEqual(self.grammar.rules(), ["s", "r"])

    def test_handed_and_told_parts_are_copies(self):
        parts = ["a", "b"]
        self.rule("r", NAME_RULE, parts)
        parts.reverse()
        self.grammar.rule_of("r")[1].clear()
        self.grammar.rules().clear()
        self.assertEqual(self.grammar.rule_of("r")[1], ["a", "b"])
        self.assertEqual(self.grammar.rules(), ["r"])


class TestTable(GrammarCase):
    def test_the_table_is_a_copy(self):
        self.kinds.put("late")
        self.assertNotIn("late", self.grammar.kinds().names())
        self.refuse(Unfit, self.grammar.word, "x", self.box("late"))
        told = self.grammar.kinds()
        told.put("later")
        told.free("told")
        self.assertNotIn("later", self.grammar.kinds().names())
        self.grammar.word("x", self.box("told"))
        self.assertEqual(str(self.grammar.meanings("x")[0]), "told[does:deed[num:#1=num] who:name[num:#1]]")
        self.assertEqual(self.grammar.kinds(), speech_table())
        self.assertIsInstance(told, Kinds)

    def test_the_grammar_changes_nothing_of_the_table(self):
        grammar = Grammar(kinds=self.kinds)
        grammar.word("x", self.box("told"))
        self.assertEqual(self.kinds, speech_table())


class TestDeeds(GrammarCase):
    def test_taken_back_and_done_again(self):
        stages = [all_of(self.grammar)[:2]]
        for call, given in ((self.grammar.word, ("x", self.box("num"))), (self.grammar.word, ("y", self.box("num"))),
                            (self.grammar.word, ("x", self.box("one"))), (self.grammar.unword, ("x", self.box("num"))),
                            (self.grammar.rule, ("r", self.box(NAME_RULE), ["a", "b"])),
                            (self.grammar.rule, ("q", self.box(NAME_RULE), ["a", "b"])),
                            (self.grammar.unrule, ("r",)), (self.grammar.unword, ("x", self.box("one")))):
            call(*given)
            stages.append(all_of(self.grammar)[:2])
        for count in range(2):
            for steps in (8, 7, 6, 5, 4, 3, 2, 1):
                self.assertEqual((self.grammar.steps(), all_of(self.grammar)[:2]), (steps, stages[steps]))
                self.assertIsNone(self.grammar.undo())
            self.refuse(NothingLeft, self.grammar.undo)
            for steps in range(8):
                self.assertEqual((self.grammar.steps(), all_of(self.grammar)[:2]), (steps, stages[steps]))
                self.assertIsNone(self.grammar.redo())
            self.refuse(NothingLeft, self.grammar.redo)

    def test_nothing_left(self):
        self.refuse(NothingLeft, self.grammar.undo)
        self.refuse(NothingLeft, self.grammar.redo)
        self.grammar.word("x", self.box("num"))
        self.refuse(NothingLeft, self.grammar.redo)

    def test_another_deed_lets_go_what_could_be_done_again(self):
        self.grammar.word("x", self.box("num"))
        self.grammar.word("y", self.box("num"))
        self.grammar.undo()
        self.grammar.word("z", self.box("num"))
        self.refuse(NothingLeft, self.grammar.redo)
        self.assertEqual(self.grammar.words(), ["x", "z"])
        self.assertEqual(self.grammar.steps(), 2)

    def test_what_is_refused_lets_nothing_go(self):
        self.grammar.word("x", self.box("num"))
        self.grammar.undo()
        self.refuse(BadName, self.grammar.word, "X", self.box("num"))
        self.refuse(NoRule, self.grammar.unrule, "r")
        self.refuse(BadName, self.grammar.together, [("word", "y", self.box("num")), ("word", "Y", self.box("num"))])
        self.grammar.together([])
        self.grammar.redo()
        self.assertEqual(self.grammar.words(), ["x"])

    def test_together(self):
        self.grammar.word("x", self.box("num"))
        self.assertIsNone(self.grammar.together([
            ("word", "y", self.box("one")), ("rule", "r", self.box(NAME_RULE), ["b", "a"]),
            ("unword", "x", self.box("num")), ("word", "x", self.box("many")),
            ("rule", "s", self.box(NAME_RULE), ("a", "b")), ("unrule", "r")]))
        self.check_words(("y", "one"), ("x", "many"))
        self.assertEqual(self.grammar.rules(), ["s"])
        self.assertEqual(self.grammar.steps(), 2)
        self.grammar.undo()
        self.check_words(("x", "num"))
        self.assertEqual(self.grammar.rules(), [])
        self.grammar.redo()
        self.check_words(("y", "one"), ("x", "many"))

    def test_together_one_behind_the_other(self):
        for name in "abcdefghijkl":
            self.grammar.word(name, self.box("any"))
        self.refuse(Full, self.grammar.together, [("word", "m", self.box("any")), ("unword", "a", self.box("any"))])
        self.grammar.together([("unword", "a", self.box("any")), ("word", "m", self.box("any"))])
        self.assertEqual(self.grammar.words(), list("bcdefghijklm"))

    def test_together_refused(self):
        self.grammar.word("x", self.box("num"))
        good = ("word", "y", self.box("one"))
        for deed, error in ((("word", "Y", self.box("one")), BadName), (("word", "y", self.box("one")), Taken),
                            (("unword", "z", self.box("one")), NoWord), (("unword", "x", self.box("one")), NoMeaning),
                            (("unrule", "r"), NoRule), (("rule", "r", self.box(NAME_RULE), ["a"]), BadParts)):
            self.refuse(error, self.grammar.together, [good, deed])
            self.refuse(error, self.grammar.together, (good, ("word", "x", self.box("any")), deed, ("unrule", "none")))
        refusal = self.refuse(NoWord, self.grammar.together, [good, ("unword", "a", self.box("any")), ("unrule", "b")])
        self.assertEqual(refusal.name, "a")
        self.assertEqual(self.grammar.steps(), 1)

    def test_together_of_none(self):
        for none in ([], ()):
            self.assertIsNone(self.grammar.together(none))
            self.assertEqual(self.grammar.steps(), 0)
        self.refuse(NothingLeft, self.grammar.undo)

    def test_together_keeps_nothing_of_what_is_handed_in(self):
        parts = ["a", "b"]
        deeds = [("rule", "r", self.box(NAME_RULE), parts), ("word", "x", self.box("num"))]
        again = copy.copy(deeds)
        self.grammar.together(deeds)
        self.assertEqual((deeds, parts), (again, ["a", "b"]))
        parts.clear()
        deeds.clear()
        self.grammar.undo()
        self.grammar.redo()
        self.assertEqual(self.grammar.rule_of("r")[1], ["a", "b"])
        self.assertEqual(self.grammar.words(), ["x"])

    def test_calls_by_keyword(self):
        self.grammar.word(box=self.box("num"), name="x")
        self.grammar.rule(parts=["a", "b"], box=self.box(NAME_RULE), name="r")
        self.assertEqual(self.grammar.rule_of(name="r")[1], ["a", "b"])
        self.assertEqual(self.grammar.meanings(name="x"), [self.box("num")])
        self.grammar.unrule(name="r")
        self.grammar.unword(box=self.box("num"), name="x")
        self.grammar.together(deeds=[("word", "y", self.box("num"))])
        self.check_words(("y", "num"))


class TestKept(GrammarCase):
    def setUp(self):
        super().setUp()
        self.grammar = speech_grammar()

    def ask(self, *rows):
        for row in rows:
            self.grammar.readings(row.split())

    def check(self, *rows):
        kept = self.grammar.kept()
        self.assertIsInstance(kept, list)
        self.assertEqual(kept, [tuple(row.split()) for row in rows])

    def test_rows_in_the_order_in_which_they_were_asked(self):
        self.check()
        self.ask("the dogs", "a", "the dogs run", "the dogs", "dog dog")
        self.check("the dogs", "a", "the dogs run", "dog dog")
        self.grammar.readings(["dog"], goal=self.box("mark"))
        self.grammar.readings(["a"], goal=self.box("any"))
        self.check("the dogs", "a", "the dogs run", "dog dog", "dog")

    def test_told_lists_are_new(self):
        self.ask("a")
        self.grammar.kept().clear()
        self.check("a")

    def test_a_word_turns(self):
        self.ask("a", "the dogs", "dogs run", "a dog", "dogs")
        self.grammar.word("dogs", self.box("mark"))
        self.check("a", "a dog")
        self.ask("dogs run", "a", "the dogs")
        self.check("a", "a dog", "dogs run", "the dogs")
        self.grammar.unword("the", self.box("pick"))
        self.check("a", "a dog", "dogs run")

    def test_a_new_word_turns_none(self):
        self.ask("a", "a dog")
        self.grammar.word("cat", self.box("thing"))
        self.check("a", "a dog")

    def test_rules_turn_rows_of_two_words_and_more(self):
        self.ask("a", "a dog", "dog", "a dog runs")
        self.grammar.unrule("tell")
        self.check("a", "dog")
        self.ask("a dog")
        self.grammar.rule("new", self.box(NAME_RULE), ["b", "a"])
        self.check("a", "dog")

    def test_taken_back_and_done_again(self):
        self.grammar.word("dogs", self.box("mark"))
        self.ask("dogs", "a", "a dog")
        self.grammar.undo()
        self.check("a", "a dog")
        self.ask("dogs")
        self.check("a", "a dog", "dogs")
        self.grammar.redo()
        self.check("a", "a dog")
        self.grammar.undo()
        self.grammar.undo()
        self.check("a")

    def test_together(self):
        self.ask("a", "dog", "the", "a dog", "the dogs")
        self.grammar.together([("word", "the", self.box("mark")), ("word", "dog", self.box("mark"))])
        self.check("a")
        self.ask("the", "dog", "a dog")
        self.grammar.undo()
        self.check("a")
        self.ask("the", "the dogs")
        self.grammar.together([("unrule", "name"), ("word", "a", self.box("mark"))])
        self.check("the")

    def test_what_comes_and_goes_at_once_turns_too(self):
        self.ask("a", "a dog", "dog", "the dogs")
        self.grammar.together([("word", "a", self.box("mark")), ("unword", "a", self.box("mark"))])
        self.check("dog", "the dogs")
        self.grammar.together([("unrule", "tell"), ("rule", "tell", self.box(SPEECH_RULES[1][1]), ["a", "b"])])
        self.check("dog")

    def test_refused_deeds_turn_none(self):
        self.ask("a", "a dog")
        self.refuse(Taken, self.grammar.word, "a", self.box("pick[num:one]"))
        self.refuse(NoRule, self.grammar.together, [("word", "a", self.box("mark")), ("unrule", "no")])
        self.grammar.together([])
        self.check("a", "a dog")

    def test_what_is_told_turns_with_deeds(self):
        self.ask("a dog", "dog")
        self.grammar.word("dog", self.box("mark"))
        self.assertEqual([str(box) for box, many in self.grammar.readings(["dog"])], ["mark", "thing[num:one]"])
        self.grammar.unrule("name")
        self.assertEqual(self.grammar.readings(["a", "dog"]), [])
        self.grammar.undo()
        self.assertEqual([str(box) for box, many in self.grammar.readings(["a", "dog"])], ["name[num:one]"])

    def test_other_questions_keep_nothing(self):
        self.grammar.tree(["a", "dog"], self.box("name[num:one]"))
        self.grammar.is_tree(["a", "dog"], self.box("name[num:one]"), "(name a.0 dog.0)")
        self.grammar.said(self.box("any"), most=2)
        self.grammar.meanings("a")
        self.check()
        self.refuse(NoWord, self.grammar.readings, ["a", "cat"])
        self.check()


class TestTwins(GrammarCase):
    def setUp(self):
        super().setUp()
        self.grammar = speech_grammar()

    def test_a_twin_has_all_of_it(self):
        self.grammar.word("x", self.box("mark"))
        self.grammar.undo()
        self.grammar.readings(["a", "dog"])
        self.grammar.readings(["dog"])
        twin = self.grammar.twin()
        self.assertIsInstance(twin, Grammar)
        self.assertEqual(all_of(twin), all_of(self.grammar))
        self.assertEqual(twin, self.grammar)
        self.assertEqual(twin.kinds(), self.grammar.kinds())
        twin.redo()
        self.assertEqual(twin.words()[-1], "x")
        for count in range(twin.steps()):
            twin.undo()
        self.assertEqual((twin.words(), twin.rules()), ([], []))

    def test_twins_go_their_own_ways(self):
        self.grammar.readings(["dog"])
        twin = self.grammar.twin()
        again = twin.twin()
        ahead = all_of(self.grammar)
        twin.word("x", self.box("mark"))
        twin.readings(["a", "dog"])
        twin.unrule("tell")
        again.undo()
        again.readings(["a"])
        self.assertEqual(all_of(self.grammar), ahead)
        self.assertEqual((twin.kept(), again.kept()), ([("dog",)], [("dog",), ("a",)]))
        self.grammar.unword("dog", self.box("thing[num:one]"))
        self.assertEqual((twin.kept(), again.kept(), self.grammar.kept()), ([("dog",)], [("dog",), ("a",)], []))
        self.assertEqual((twin.steps(), again.steps(), self.grammar.steps()), (12, 9, 11))
        self.refuse(NothingLeft, self.grammar.redo)
        again.redo()
        self.assertEqual(again.rules(), ["name", "tell", "bare"])

    def test_grammars_of_one_table_have_nothing_to_do_with_one_another(self):
        one, other = Grammar(self.kinds), Grammar(self.kinds)
        one.word("x", self.box("num"))
        self.assertEqual((one.words(), other.words()), (["x"], []))


class TestEqual(GrammarCase):
    def check(self, one, other, answer):
        self.assertIs(one == other, answer)
        self.assertIs(other == one, answer)
        self.assertIs(grammar_page(one) == grammar_page(other), answer)

    def test_the_same(self):
        self.check(speech_grammar(), speech_grammar(), True)
        self.check(Grammar(Kinds()), Grammar(Kinds()), True)
        asked = speech_grammar()
        asked.readings(["dog"])
        self.check(asked, speech_grammar(), True)
        asked.unrule("name")
        self.check(asked, speech_grammar(), False)
        asked.undo()
        self.check(asked, speech_grammar(), True)

    def test_words_and_their_order(self):
        one, other = Grammar(self.kinds), Grammar(self.kinds)
        for grammar, order in ((one, "xy"), (other, "yx")):
            for name in order:
                grammar.word(name, self.box("num"))
        self.check(one, other, False)
        other.unword("x", self.box("num"))
        self.check(one, other, False)
        one.together([("unword", "x", self.box("num"))])
        self.check(one, other, True)

    def test_meanings_and_their_order(self):
        one, other = Grammar(self.kinds), Grammar(self.kinds)
        for grammar, order in ((one, ("num", "one")), (other, ("one", "num"))):
            for text in order:
                grammar.word("x", self.box(text))
        self.check(one, other, False)

    def test_rules_and_their_order(self):
        one, other = Grammar(self.kinds), Grammar(self.kinds)
        for grammar, order in ((one, "rs"), (other, "sr")):
            for name in order:
                grammar.rule(name, self.box(NAME_RULE), ["a", "b"])
        self.check(one, other, False)
        one.unrule("r")
        other.unrule("r")
        self.check(one, other, True)
        one.together([("unrule", "s"), ("rule", "s", self.box(NAME_RULE), ["b", "a"])])
        self.check(one, other, False)

    def test_tables(self):
        self.check(Grammar(self.kinds), Grammar(Kinds()), False)
        self.kinds.free("told")
        self.check(Grammar(self.kinds), self.grammar, False)

    def test_nothing_else(self):
        for other in (None, 0, "", grammar_page(self.grammar), [], self.kinds, self.box("any"), Grammar):
            self.assertIs(self.grammar == other, False)
            self.assertIs(self.grammar != other, True)


class SlowGrammar:
    """Deeds in another way: lists that are copied as a whole ahead of each deed."""

    def __init__(self, kinds):
        self.kinds = kinds
        self.words = []
        self.rules = []
        self.past = []
        self.future = []
        self.kept = []

    def state(self):
        return copy.deepcopy((self.words, self.rules))

    def turn(self, deeds):
        names = [deed[1] for deed in deeds if deed[0].endswith("word")]
        rules = any(deed[0].endswith("rule") for deed in deeds)
        self.kept = [row for row in self.kept if not set(names) & set(row) and not (rules and len(row) > 1)]

    def together(self, deeds):
        """None, or the name of the refusal."""
        ahead = self.state()
        for deed in deeds:
            refusal = getattr(self, deed[0])(*deed[1:])
            if refusal is not None:
                self.words, self.rules = ahead
                return refusal
        if deeds:
            self.past.append((ahead, deeds))
            self.future = []
            self.turn(deeds)
        return None

    def undo(self):
        if not self.past:
            return "NothingLeft"
        state, deeds = self.past.pop()
        self.future.append((self.state(), deeds))
        self.words, self.rules = copy.deepcopy(state)
        self.turn(deeds)

    def redo(self):
        if not self.future:
            return "NothingLeft"
        state, deeds = self.future.pop()
        self.past.append((self.state(), deeds))
        self.words, self.rules = copy.deepcopy(state)
        self.turn(deeds)

    def word(self, name, box):
        if not (name.isalpha() and name.islower() and len(name) < 9):
            return "BadName"
        if not fits(self.kinds, box):
            return "Unfit"
        meaning = rest(self.kinds, box)
        if meaning is None:
            return "NoRest"
        known = [boxes for each, boxes in self.words if each == name]
        if known and meaning in known[0]:
            return "Taken"
        if known and len(known[0]) == 3 or not known and len(self.words) == 12:
            return "Full"
        if known:
            known[0].append(meaning)
        else:
            self.words.append((name, [meaning]))

    def unword(self, name, box):
        known = [boxes for each, boxes in self.words if each == name]
        if not known:
            return "NoWord"
        if box not in known[0]:
            return "NoMeaning"
        known[0].remove(box)
        self.words = [(each, boxes) for each, boxes in self.words if boxes]

    def rule(self, name, box, parts):
        if not (name.isalpha() and name.islower() and len(name) < 9):
            return "BadName"
        if name in [each for each, boxes, given in self.rules]:
            return "Taken"
        if len(self.rules) == 6:
            return "Full"
        if not fits(self.kinds, box):
            return "Unfit"
        rooms = [room for room, there in box.nodes()[0][1]]
        if len(parts) not in (2, 3) or len({*parts}) < len(parts) or "whole" in parts:
            return "BadParts"
        if not {*parts, "whole"} <= {*rooms}:
            return "BadParts"
        told = rest(self.kinds, box)
        if told is None:
            return "NoRest"
        self.rules.append((name, told, list(parts)))

    def unrule(self, name):
        if name not in [each for each, boxes, parts in self.rules]:
            return "NoRule"
        self.rules = [rule for rule in self.rules if rule[0] != name]


class TestManyDeeds(unittest.TestCase):
    """Deeds by chance on two grammars, of which the other one is plain."""

    def random_deed(self, chance, grammar, boxes, rules):
        word = chance.choice(("word", "word", "word", "unword", "rule", "rule", "unrule"))
        name = chance.choice(("u", "v", "w", "x", "Z") if "word" in word else ("k", "l", "m", "n", "o", "p", "q", ""))
        if word == "unword" and name in grammar.words() and chance.random() < 0.7:
            return word, name, chance.choice(grammar.meanings(name))
        if word == "rule":
            parts = [chance.choice(("a", "b", "c", "c", "whole", "d")[:chance.choice((3, 6))])
                     for count in range(chance.choice((1, 2, 2, 2, 3, 4)))]
            return word, name, chance.choice(rules), parts
        return (word, name, chance.choice(boxes)) if word != "unrule" else (word, name)

    def called(self, call, *given):
        try:
            call(*given)
        except (TraitError, Missing) as refusal:
            return refusal.called
        return None

    def compare(self, chance):
        kinds = random_table(chance, 5)
        kinds.put("make", rooms=[(room, "any") for room in ("a", "b", "c", "whole")])
        boxes = [random_box(kinds, chance, chance.randint(1, 3)) for count in range(5)]
        rules = [random_box(kinds, chance, 6, "make", often=0.9) for count in range(6)]
        foreign = read(table(("alien", "any", "")), "alien")
        grammar, slow = Grammar(kinds), SlowGrammar(kinds)
        answers = []
        for count in range(60):
            move = chance.choice(("one", "one", "one", "several", "undo", "undo", "redo", "ask", "ask", "twin"))
            if move == "one":
                deed = self.random_deed(chance, grammar, [*boxes, foreign], [*rules, foreign])
                told = self.called(getattr(grammar, deed[0]), *deed[1:])
                self.assertEqual(told, slow.together([deed]))
            elif move == "several":
                deeds = [self.random_deed(chance, grammar, boxes, rules) for each in range(chance.randint(0, 3))]
                told = self.called(grammar.together, deeds)
                self.assertEqual(told, slow.together(deeds))
            elif move in ("undo", "redo"):
                told = self.called(getattr(grammar, move))
                self.assertEqual(told, getattr(slow, move)())
            elif move == "ask":
                row = tuple(chance.choice("uvwx") for each in range(chance.randint(1, 2)))
                told = self.called(grammar.readings, row)
                if told is None and row not in slow.kept:
                    slow.kept.append(row)
            else:
                told, grammar = None, grammar.twin()
            answers.append((move, told))
            self.compare_states(grammar, slow)
        return answers

    def compare_states(self, grammar, slow):
        self.assertEqual([(name, grammar.meanings(name)) for name in grammar.words()], slow.words)
        self.assertEqual([(name, *grammar.rule_of(name)) for name in grammar.rules()], slow.rules)
        self.assertEqual((grammar.steps(), len(grammar)), (len(slow.past), len(slow.words)))
        self.assertEqual(grammar.kept(), slow.kept)
        fresh = Grammar(grammar.kinds())
        fresh.together([("word", name, box) for name, boxes in slow.words for box in boxes])
        fresh.together([("rule", *rule) for rule in slow.rules])
        self.assertEqual(grammar, fresh)
        for row in grammar.kept():
            self.assertEqual(grammar.readings(row), fresh.readings(row))

    def test_many_deeds(self):
        chance = random.Random(12)
        answers = [answer for count in range(40) for answer in self.compare(chance)]
        for told in (None, "BadName", "Unfit", "Taken", "NoWord", "NoMeaning", "NoRule", "BadParts", "NoRest"):
            self.assertGreater(answers.count(("one", told)), 4, told)
        for move in ("undo", "redo"):
            self.assertGreater(min(answers.count((move, None)), answers.count((move, "NothingLeft"))), 20)
        self.assertGreater(answers.count(("several", None)), 30)


if __name__ == "__main__":
    unittest.main()
