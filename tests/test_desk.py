import random
import re
import unittest

from tests.tables import all_of, random_grammar, speech_grammar, table
from traitmere.desk import Desk
from traitmere.errors import Missing, TraitError
from traitmere.grammar import Grammar
from traitmere.joins import join
from traitmere.pages import grammar_page
from traitmere.texts import read
from traitmere.walks import over

TOLD = "told[does:deed[num:#1=num] who:name[num:#1]]"
NONE = "told[does:deed[num:one] who:name[num:many]]"
RULE = "made[a:any b:any whole:mark]"


class DeskCase(unittest.TestCase):
    def setUp(self):
        self.grammar = speech_grammar()
        self.desk = Desk(self.grammar)

    def check(self, line, answer):
        self.assertEqual(self.desk.say(line), answer, line)

    def check_still(self, line, answer):
        """An answer behind which all is as it was."""
        ahead = all_of(self.grammar), grammar_page(self.grammar)
        self.check(line, answer)
        self.assertEqual((all_of(self.grammar), grammar_page(self.grammar)), ahead, line)


class TestDeeds(DeskCase):
    def test_word(self):
        self.check("word cat thing[num:one]", "done")
        self.check("word cat told", "done")
        self.assertEqual([str(box) for box in self.grammar.meanings("cat")], ["thing[num:one]", TOLD])

    def test_unword(self):
        self.check("unword run deed[num:many]", "done")
        self.assertEqual([str(box) for box in self.grammar.meanings("run")], ["thing[num:one]"])
        self.check("unword run thing[num:one]", "done")
        self.assertNotIn("run", self.grammar.words())

    def test_rule(self):
        self.check(f"rule two b,a {RULE}", "done")
        self.check("rule three c,a,b made[a:any b:any c:any whole:told]", "done")
        self.assertEqual(self.grammar.rules(), ["name", "tell", "bare", "two", "three"])
        self.assertEqual(self.grammar.rule_of("two")[1], ["b", "a"])
        self.assertEqual(self.grammar.rule_of("three")[1], ["c", "a", "b"])
        self.assertEqual(str(self.grammar.rule_of("three")[0]), f"made[a:any b:any c:any whole:{TOLD}]")

    def test_unrule(self):
        self.check("unrule tell", "done")
        self.assertEqual(self.grammar.rules(), ["name", "bare"])

    def test_undo_and_redo(self):
        self.check("word cat thing", "done")
        self.check("undo", "done")
        self.assertNotIn("cat", self.grammar.words())
        self.check("redo", "done")
        self.assertEqual(self.grammar.words()[-1], "cat")
        self.assertEqual(self.grammar.steps(), 11)

    def test_refused_words(self):
        self.check_still("word Cat any", "no BadName")
        self.check_still("word cat, any", "no BadName")
        self.check_still("word catcatcat any", "no BadName")
        self.check_still(f"word cat {NONE}", "no NoRest")
        self.check_still("word run thing[num:one]", "no Taken")
        self.check("word run any", "done")
        self.check_still("word run mark", "no Full")
        for name in "bcdefg":
            self.check(f"word {name} any", "done")
        self.check_still("word h any", "no Full")

    def test_refused_unwords(self):
        self.check_still("unword cat any", "no NoWord")
        self.check_still("unword Cat, any", "no NoWord")
        self.check_still("unword dog any", "no NoMeaning")
        self.check("word cat told", "done")
        self.check_still("unword cat told", "no NoMeaning")
        self.check(f"unword cat {TOLD}", "done")

    def test_refused_rules(self):
        self.check_still(f"rule Two a,b {RULE}", "no BadName")
        self.check_still(f"rule tell a,b {RULE}", "no Taken")
        for rooms in ("a", "a,a", "a,whole", "a,c", "a,b,a", "a,b,whole", "A,b", "a,b,c,d,e", "whole"):
            self.check_still(f"rule two {rooms} {RULE}", "no BadParts")
        self.check_still("rule two a,b made[a:any b:any]", "no BadParts")
        self.check_still(f"rule two a,b made[a:any b:any whole:{NONE}]", "no NoRest")
        for name in "klm":
            self.check(f"rule {name} a,b {RULE}", "done")
        self.check_still(f"rule n a,b {RULE}", "no Full")

    def test_other_refused_deeds(self):
        self.check_still("unrule none", "no NoRule")
        self.check_still("unrule Tell,", "no NoRule")
        self.check_still("redo", "no NothingLeft")
        for count in range(self.grammar.steps()):
            self.check("undo", "done")
        self.check_still("undo", "no NothingLeft")


class TestQuestions(DeskCase):
    def test_read(self):
        self.check("read dog", "thing[num:one]")
        self.check("read run", "deed[num:many] ; thing[num:one]")
        self.check("read the dogs run", "told[does:deed[num:#1=many] who:name[num:#1]]")
        self.check("read a dogs", "none")
        self.check("read dog dog dog dog dog dog", "none")

    def test_count(self):
        self.check("count dog", "1")
        self.check("count run", "2")
        self.check("count the dogs run", "1")
        self.check("count a dogs", "0")
        self.desk = Desk(Grammar(table(("made", "any", "a:any b:any whole:any"))))
        self.check("word x any", "done")
        self.check("rule r a,b made[a:any b:any whole:any]", "done")
        self.check("rule s a,b made[a:#1=any b:any whole:#1]", "done")
        self.check("read x x x", "any")
        self.check("count x x x", "8")
        self.check("count x x x x x x", str(42 * 32))

    def test_refused_rows(self):
        for word in ("read", "count"):
            self.check_still(f"{word} dog dog dog dog dog dog dog", "no BadRow")
            self.check_still(f"{word} no no no no no no no", "no BadRow")
            self.check_still(f"{word} the cat", "no NoWord")
            self.check_still(f"{word} Dog", "no NoWord")
            self.check_still(f"{word} dog;", "no NoWord")

    def test_say(self):
        self.check_still("say 3 told", "a-dog-runs a-run-runs the-dog-runs the-dogs-run the-run-runs")
        self.check_still("say 4 told", "a-dog-runs a-run-runs the-dog-runs the-dogs-run the-run-runs")
        self.check_still("say 2 phrase[num:many]", "dogs run the the-dogs")
        self.check_still("say 1 phrase[num:many]", "dogs run the")
        self.check_still("say 2 told", "none")
        self.check_still(f"say 3 {NONE}", "none")

    def test_refused_numbers(self):
        for figure in "056789":
            self.check_still(f"say {figure} told", "no BadMost")

    def test_join(self):
        self.check_still("join phrase[num:one] ; name", "name[num:one]")
        self.check_still("join told[does:deed[num:one]] ; told", "told[does:deed[num:#1=one] who:name[num:#1]]")
        self.check_still("join dog ; deed", "no BadText")
        self.check_still("join name ; deed", "none")
        self.check_still("join phrase[num:one] ; phrase[num:many]", "none")
        self.check_still(f"join {NONE} ; {NONE}", "none")
        self.check_still("join made[a:#1=any b:#1] ; made[a:name b:phrase[num:one]]", "made[a:#1=name[num:one] b:#1]")

    def test_over(self):
        self.check_still("over name[num:one] ; deed[num:many]", "phrase[num:num]")
        self.check_still("over name ; mark", "any")
        self.check_still("over made[a:#1=any b:#1] ; made[a:#1=name b:#1]", "made[a:#1=any b:#1]")
        self.check_still(f"over {NONE} ; {NONE}", NONE)

    def test_rows_that_are_read_or_counted_are_kept(self):
        self.check("count a dog", "1")
        self.check("read dog", "thing[num:one]")
        self.assertEqual(self.grammar.kept(), [("a", "dog"), ("dog",)])


class TestForms(DeskCase):
    def test_a_text_that_is_no_box_goes_first(self):
        for line in ("word Cat no", "word cat no", "unword no no", "unword cat any[", "rule Two a,b no", "rule r a no",
                     "rule tell a,a made[]", "say 0 no", "say 9 any ", "say 3 no", "join no ; any", "join any ; no",
                     "over no ; any", "over any ; no", "word cat thing[num:name]", "word dog #1=any"):
            self.check_still(line, "no BadText")

    def test_another_blank_ahead_or_behind_is_the_texts_own(self):
        for line in ("word cat  any", "word cat any ", "unword dog  any", "rule r a,b  made", f"rule r a,b {RULE} ",
                     "say 1  any", "say 1 any ", "join  any ; any", "join any ;  any", "join any  ; any",
                     "join any ; any ", "over  any ; any", "over any ; any\n", "word cat \n", "word cat  ", "say 3  ",
                     "word cat any ; any", "rule r a,b any ; any", "say 1 any ; any", "join ; ; any"):
            self.check_still(line, "no BadText")

    def test_lines_of_no_form(self):
        for line in ("", " ", "what", "help", "done", "none", "word", "word ", "word cat", "word cat ", "word  cat any",
                     " word cat any", "word  any", "Word cat any", "words cat any", "wordcat any", "unword",
                     "unword dog", "unword dog ", "unword  dog thing[num:one]", "rule", "rule r", "rule r a,b",
                     "rule r a,b ", "rule r  made", f"rule  r a,b {RULE}", f"rule r a, b {RULE}",
                     f"rule r a,,b {RULE}", f"rule r ,a,b {RULE}", f"rule r a,b, {RULE}", f"rule r , {RULE}",
                     "unrule", "unrule ", "unrule tell name", "unrule  tell", "unrule tell ", "undo ", " undo",
                     "undo undo", "undo 1", "Undo", "redo ", "redo again", "REDO", "undo\n", "read", "read ",
                     "read  dog",
                     "read dog ", "read the  dogs", " read dog", "reads dog", "count", "count ", "count  dog",
                     "count dog ", "say", "say ", "say 3", "say 3 ", "say told", "say 12 told", "say -1 told",
                     "say x told", "say  3 told", "say  told", "say , told", "join", "join ", "join any",
                     "join any any", "join any;any", "join any ;any", "join any; any", "join ; any", "join  ; any",
                     "join any ; ", "join any ;", "join any ; any ; any", "join  ; ", "join ;", "over", "over any",
                     "over any ; any ; any", "over  ; any", "over any ; ", "words", "kind x any", "must any any",
                     "twin", "steps", "kept"):
            self.check_still(line, "what")

    def test_what_is_no_form_goes_ahead_of_what_is_no_box(self):
        self.check_still("rule r a,,b no", "what")
        self.check_still("say 12 no", "what")
        self.check_still("join no ; no ; no", "what")

    def test_several_lines_behind_one_another(self):
        for line, answer in (("word cat thing[num:one]", "done"), ("read a cat", "name[num:one]"), ("undo", "done"),
                             ("read a cat", "no NoWord"), ("nothing", "what"), ("word X any", "no BadName"),
                             ("redo", "done"), ("read a cat", "name[num:one]"), ("redo", "no NothingLeft")):
            self.check(line, answer)


class TestApart(DeskCase):
    def test_of_that_very_grammar(self):
        self.assertIs(self.desk.grammar(), self.grammar)
        self.grammar.word("cat", read(self.grammar.kinds(), "mark"))
        self.check("read cat", "mark")

    def test_two_desks_of_the_one_grammar(self):
        other = Desk(grammar=self.grammar)
        self.assertEqual(other.say(line="word cat mark"), "done")
        self.check("read cat", "mark")
        self.check("undo", "done")
        self.assertEqual(other.say("read cat"), "no NoWord")
        self.assertEqual(other.say("redo"), "done")
        self.check("read cat", "mark")
        self.assertIs(other.grammar(), self.desk.grammar())

    def test_desks_of_two_grammars(self):
        other = Desk(self.grammar.twin())
        other.say("unrule tell")
        self.check("count the dogs run", "1")
        self.assertEqual(other.say("count the dogs run"), "0")


class SlowDesk:
    """Point [21], by patterns of lines."""

    FORMS = ("(undo)", "(redo)", "(word) ([^ ]+) (.+)", "(unword) ([^ ]+) (.+)",
             "(rule) ([^ ]+) ([^ ,]+(?:,[^ ,]+)*) (.+)", "(unrule) ([^ ]+)", "(read) ([^ ]+(?: [^ ]+)*)",
             "(count) ([^ ]+(?: [^ ]+)*)", "(say) ([0-9]) (.+)", "(join) (.+) ; (.+)", "(over) (.+) ; (.+)")

    def __init__(self, grammar):
        self.grammar = grammar

    def answer(self, line):
        for form in self.FORMS:
            found = re.fullmatch(form, line, re.DOTALL)
            if found and (found[1] not in ("join", "over") or line.count(" ; ") == 1):
                try:
                    return getattr(self, "do_" + found[1])(*found.groups()[1:])
                except (TraitError, Missing) as refusal:
                    return "no " + type(refusal).__name__
        return "what"

    def box(self, text):
        return read(self.grammar.kinds(), text)

    def do_undo(self):
        return self.grammar.undo() or "done"

    def do_redo(self):
        return self.grammar.redo() or "done"

    def do_word(self, name, text):
        return self.grammar.word(name, self.box(text)) or "done"

    def do_unword(self, name, text):
        return self.grammar.unword(name, self.box(text)) or "done"

    def do_rule(self, name, rooms, text):
        return self.grammar.rule(name, self.box(text), rooms.split(",")) or "done"

    def do_unrule(self, name):
        return self.grammar.unrule(name) or "done"

    def do_read(self, row):
        return " ; ".join(sorted(str(box) for box, many in self.grammar.readings(row.split(" ")))) or "none"

    def do_count(self, row):
        return str(sum(many for box, many in self.grammar.readings(row.split(" "))))

    def do_say(self, most, text):
        rows = self.grammar.said(self.box(text), most=int(most))
        return " ".join("-".join(row) for row in rows) or "none"

    def do_join(self, one, other):
        return str(join(self.grammar.kinds(), self.box(one), self.box(other)) or "none")

    def do_over(self, one, other):
        return str(over(self.grammar.kinds(), self.box(one), self.box(other)))


class TestManyLines(unittest.TestCase):
    """Lines by chance, on twins."""

    def line(self, chance, grammar):
        boxes = [str(box) for name in grammar.words() for box in grammar.meanings(name)]
        boxes += [str(grammar.rule_of(name)[0]) for name in grammar.rules()] + ["any", "make", "no"]
        names = [*grammar.words(), "new", "other", "No"]
        rules = [*grammar.rules(), "fresh", "No"]
        one, other = chance.choice(boxes), chance.choice(boxes)
        name, rule = chance.choice(names), chance.choice(rules)
        row = " ".join(chance.choice(names[:-2]) for count in range(chance.choice((1, 1, 2, 2, 3, 7))))
        rooms = ",".join(chance.sample(["a", "b", "c", "whole"], chance.choice((1, 2, 2, 2, 3))))
        line = chance.choice((
            "undo", "redo", f"word {name} {one}", f"unword {name} {one}", f"rule {rule} {rooms} {one}",
            f"unrule {rule}", f"read {row}", f"count {row}", f"say {chance.choice('012')} {one}",
            f"join {one} ; {other}", f"over {one} ; {other}"))
        if chance.random() < 0.3:
            place = chance.randrange(len(line) + 1)
            sign = chance.choice(("", " ", ",", ";", " ; ", "a", "\n"))
            line = line[:place] + sign + line[place + chance.randint(0, 1):]
        return line

    def test_many_lines(self):
        chance = random.Random(6)
        answers = {}
        for count in range(40):
            grammar = random_grammar(chance, 3, 3)
            desk, slow = Desk(grammar), SlowDesk(grammar.twin())
            for each in range(60):
                line = self.line(chance, grammar)
                answer = desk.say(line)
                self.assertEqual(answer, slow.answer(line), line)
                self.assertEqual(all_of(grammar), all_of(slow.grammar), line)
                answers[answer] = answers.get(answer, 0) + 1
        for answer in ("done", "none", "what", "no BadText", "no NoWord", "no NoRule", "no NothingLeft", "no BadRow",
                       "no NoMeaning", "no Taken", "no BadName", "no BadParts", "no BadMost"):
            self.assertGreater(answers.get(answer, 0), 5, answer)


if __name__ == "__main__":
    unittest.main()
