import random
import re
import unittest

from tests.tables import random_grammar, random_table, refused, rich_table, small_table, speech_grammar, speech_table
from tests.tables import table
from traitmere.errors import BadPage, Missing, TraitError
from traitmere.grammar import Grammar
from traitmere.kinds import Kinds
from traitmere.pages import grammar_page, read_grammar, read_table, table_page
from traitmere.texts import read
from traitmere.walks import at_rest

SPEECH_PAGE = """kind num any
kind one num
kind many num
kind phrase any num:num
kind name phrase
kind deed phrase
kind thing phrase
kind pick phrase
kind told any does:deed who:name
kind asked told
kind mark any
kind made any a:any b:any c:any whole:any
must told told[does:deed[num:#1=num] who:name[num:#1]]
words
word the pick
word a pick[num:one]
word dog thing[num:one]
word dogs thing[num:many]
word runs deed[num:one]
word run deed[num:many]
word run thing[num:one]
rule name a,b made[a:pick[num:#1=num] b:thing[num:#1] whole:name[num:#1]]
rule tell a,b made[a:#1=name[num:#2=num] b:#3=deed[num:#2] whole:told[does:#3 who:#1]]
rule bare a,b,c made[a:mark b:#1=told[does:deed[num:#2=num] who:name[num:#2]] c:mark whole:#1]"""


class TestTablePages(unittest.TestCase):
    def check(self, kinds, text):
        self.assertEqual(table_page(kinds), text)
        self.assertEqual(read_table(text), kinds)
        self.assertEqual(table_page(read_table(text)), text)

    def test_no_kinds(self):
        self.check(Kinds(), "")

    def test_kinds_in_their_coming(self):
        self.check(table(("b", "any", ""), ("a", "b", ""), ("c", "b", "")), "kind b any\nkind a b\nkind c b")

    def test_ups_rise_each_once(self):
        kinds = table(("z", "any", ""), ("y", "any", ""), ("x", "z y z", ""))
        self.check(kinds, "kind z any\nkind y any\nkind x y,z")
        self.check(table(("a", "any", ""), ("b", "a any", "")), "kind a any\nkind b a,any")

    def test_rooms_rise_as_told(self):
        self.check(small_table(), "kind word any\nkind noun word\nkind verb word\nkind pair any left:any right:word\n"
                                  "kind triple pair left:word mid:any\nkind ring any on:any")

    def test_musts_by_rising_names(self):
        kinds = table(("z", "any", "on:any"), ("a", "any", "in:any"), ("x", "any", ""),
                      musts=("z[on:x]", "a[in:x]", "any"))
        self.check(kinds, "kind z any on:any\nkind a any in:any\nkind x any\n"
                          "must a a[in:x]\nmust any any\nmust z z[on:x]")

    def test_what_went_is_not_told(self):
        kinds = rich_table()
        kinds.free("blue")
        kinds.drop("leaf")
        kinds.put("leaf", ["red"], rooms=[("d", "any")])
        self.check(kinds, "kind web any a:any b:any c:any\nkind red web b:web\nkind blue web a:web\n"
                          "kind both blue,red b:red\nkind leaf red d:any\nmust both #1=both[b:#1]")

    def test_twenty_four_kinds(self):
        kinds = table(*[(name, "any", f"{name}{name}:any") for name in "abcdefghijklmnopqrstuvw"])
        self.assertEqual(len(kinds), 24)
        self.check(kinds, "\n".join(f"kind {name} any {name}{name}:any" for name in "abcdefghijklmnopqrstuvw"))
        self.assertEqual(refused(self, BadPage, read_table, table_page(kinds) + "\nkind x any").row, 23)

    def test_many_tables(self):
        chance = random.Random(1)
        for count in range(60):
            kinds = random_table(chance, 14)
            self.check(kinds, table_page(kinds))
            told = read_table(table_page(kinds))
            self.assertEqual([(name, told.rooms(name), told.above(name)) for name in told.names()],
                             [(name, kinds.rooms(name), kinds.above(name)) for name in kinds.names()])

    def test_tables_from_which_kinds_went(self):
        chance = random.Random(2)
        for count in range(60):
            kinds = random_table(chance, 14)
            for name in chance.sample(kinds.names(), len(kinds)):
                try:
                    kinds.drop(name)
                except TraitError:
                    continue
                try:
                    kinds.put(name, [chance.choice(kinds.names())], rooms=[(chance.choice("rstuv"), "any")])
                except TraitError:
                    continue
            self.check(kinds, table_page(kinds))

    def test_a_read_table_goes_its_own_way(self):
        text = table_page(speech_table())
        one, other = read_table(text), read_table(text=text)
        one.put("new")
        self.assertEqual(other, speech_table())


class TestBadTablePages(unittest.TestCase):
    def check(self, text, row):
        refusal = refused(self, BadPage, read_table, text)
        self.assertEqual((refusal.called, refusal.row), ("BadPage", row), text)

    def test_rows_of_no_form(self):
        for row in ("", " ", "kind", "kind ", "kind b", "kind b ", "kind b  any", " kind b any", "kind  b any",
                    "kind b any ", "kind b any x", "kind b any x:", "kind b any :any", "kind b any x:any ",
                    "kind b any  x:any", "kind b any x:any:any", "kind b any x: any", "kind b any,", "kind b ,any",
                    "kind b any,any", "kind b any,a", "Kind b any", "kinds b any", "kind b any x:any,y:any",
                    "kind b any\tx:any", "words",
                    "must", "must a", "must a ", "must a  a", "must a a ", " must a a", "must  a a", "musts a a",
                    "word a a", "rule r a,b a", "x", "kind b any y:any x:any", "kind b any x:any x:any", "must a a[]",
                    "kind b a,a", "kind b any#"):
            self.check(f"kind a any\n{row}", 1)
            self.check(f"kind a any\n{row}\nkind c any", 1)

    def test_row_ends(self):
        self.check("\n", 0)
        self.check("kind a any\n", 1)
        self.check("\nkind a any", 0)
        self.check("kind a any\n\nkind b any", 1)
        self.check("kind a any\nkind b any\n", 2)
        self.check("kind a any kind b any", 0)
        self.check("kind a any\nkind b any\n\n", 2)

    def test_refused_kinds(self):
        good = "kind a any in:any\nkind b a\nkind c a\nkind d b,c\n"
        for row in ("kind a any", "kind any any", "kind E any", "kind e no", "kind e b,c", "kind e any in:any",
                    "kind e a in:no", "kind eeeeeeeee any", "kind e a,no", "kind e any tooolongx:any"):
            self.check(good + row, 4)
        self.check("kind b a\nkind a any", 0)
        self.check("kind a any in:any\nkind b a in:a\nkind c b in:any", 2)

    def test_refused_musts(self):
        good = "kind a any in:any\nkind x any\nkind b any on:any\n"
        for row in ("must a x", "must a any", "must c a", "must a a[in:no]", "must a a[on:x]", "must a #1=a[in:#2]",
                    "must a a[in:#1=x]", "must a a[in:a]", "must a a[in:any]", "must A a"):
            self.check(good + row, 3)
        self.check(good + "must a a[in:x]\nmust a a[in:x]", 4)
        self.check(good + "must a a[in:b]\nmust b b[on:a]", 4)

    def test_rows_out_of_order(self):
        good = "kind a any in:any\nkind x any\nkind b any on:any\n"
        self.check(good + "must b b[on:x]\nmust a a[in:x]", 4)
        self.check(good + "must a a[in:x]\nkind c any", 4)
        self.check("kind a any in:any\nmust a a\nkind x any", 2)

    def test_the_first_bad_row_is_told(self):
        self.check("kind a any\nkind b any \nno\nkind c no", 1)
        self.check("kind a any\nkind b any\nno\nkind c no", 2)


class TestGrammarPages(unittest.TestCase):
    def check(self, grammar, text):
        self.assertEqual(grammar_page(grammar), text)
        told = read_grammar(text)
        self.assertEqual(told, grammar)
        self.assertEqual(grammar_page(told), text)
        self.assertEqual((told.steps(), told.kept()), (0, []))
        for call in (told.undo, told.redo):
            self.assertRaises(Missing, call)
        self.assertEqual((told.words(), told.rules()), (grammar.words(), grammar.rules()))
        self.assertEqual(told.kinds(), grammar.kinds())
        return told

    def test_an_empty_one(self):
        self.check(Grammar(Kinds()), "words")

    def test_a_table_alone(self):
        self.check(Grammar(small_table()), table_page(small_table()) + "\nwords")

    def test_words_and_rules(self):
        told = self.check(speech_grammar(), SPEECH_PAGE)
        self.assertEqual([str(box) for box, many in told.readings(["the", "dog", "runs"])],
                         ["told[does:deed[num:#1=one] who:name[num:#1]]"])

    def test_words_as_they_came(self):
        grammar = Grammar(small_table())
        kinds = grammar.kinds()
        for name, text in (("b", "noun"), ("a", "verb"), ("b", "any"), ("words", "any")):
            grammar.word(name, read(kinds, text))
        rows = ["words", "word b noun", "word b any", "word a verb", "word words any"]
        self.check(grammar, "\n".join([table_page(kinds), *rows]))

    def test_deeds_and_kept_rows_are_not_in_it(self):
        grammar = speech_grammar()
        grammar.readings(["dog"])
        grammar.undo()
        grammar.redo()
        self.check(grammar, SPEECH_PAGE)
        self.assertEqual((grammar.steps(), grammar.kept()), (10, [("dog",)]))

    def test_many_grammars(self):
        chance = random.Random(3)
        for count in range(40):
            grammar = random_grammar(chance, 4, 4)
            self.check(grammar, grammar_page(grammar))

    def test_calls_by_keyword(self):
        self.assertEqual(grammar_page(grammar=read_grammar(text=SPEECH_PAGE)), SPEECH_PAGE)
        self.assertEqual(table_page(kinds=Kinds()), "")

    def test_a_read_grammar_goes_its_own_way(self):
        one, other = read_grammar(SPEECH_PAGE), read_grammar(SPEECH_PAGE)
        one.unrule("name")
        self.assertEqual(grammar_page(other), SPEECH_PAGE)


class TestBadGrammarPages(unittest.TestCase):
    def check(self, text, row):
        refusal = refused(self, BadPage, read_grammar, text)
        self.assertEqual((refusal.called, refusal.row), ("BadPage", row), text)

    GOOD = "kind x any\nkind y x\nkind m any a:any b:any whole:any\nkind k any on:any\nmust k k[on:x]\nwords"

    def test_the_row_of_words_lacks(self):
        self.check("", 0)
        self.check("kind x any", 1)
        self.check("kind x any\nmust x x", 2)
        self.check(table_page(speech_table()), 13)
        self.check("kind x any\nword a x", 1)
        self.check("kind x any\nkind y no", 1)

    def test_rows_of_the_table(self):
        self.check("kind x any \nwords", 0)
        self.check("kind x any\nkind y no\nwords\nword a x", 1)
        self.check("\nwords", 0)
        self.check("words\nkind x any", 1)
        self.check("kind x any\nwords\nmust x x", 2)
        self.check("words\nwords", 1)
        self.check("kind x any\nwords ", 1)
        self.check("kind x any\n words", 1)
        self.check("kind x any\nWords\nwords", 1)

    def test_rows_of_no_form(self):
        self.assertEqual(grammar_page(read_grammar(self.GOOD)), self.GOOD)
        for row in ("", " ", "word", "word a", "word a ", "word  a x", "word a  x", "word a x ", " word a x",
                    "Word a x", "words a x", "unword a x", "rule", "rule r", "rule r a,b", "rule r a,b ",
                    "rule r  a,b x", "rule r a,b  m[a:x b:x whole:x]", "rule r a,b m[a:x b:x whole:x] ",
                    "rule  r a,b m[a:x b:x whole:x]", "rule r a, b m[a:x b:x whole:x]",
                    "rule r a,b, m[a:x b:x whole:x]", "rule r ,a,b m[a:x b:x whole:x]",
                    "rule r a b m[a:x b:x whole:x]", "unrule r", "undo", "word a x;y",
                    "rules r a,b m[a:x b:x whole:x]"):
            self.check(f"{self.GOOD}\n{row}", 6)
            self.check(f"{self.GOOD}\nword b x\n{row}\nword c x", 7)

    def test_refused_deeds(self):
        for row in ("word A x", "word a no", "word aaaaaaaaa x", "word a x[on:x]", "word a #1=x",
                    "rule R a,b m[a:x b:x whole:x]", "rule r a m[a:x b:x whole:x]", "rule r a,a m[a:x b:x whole:x]",
                    "rule r a,whole m[a:x b:x whole:x]", "rule r a,c m[a:x b:x whole:x]", "rule r a,b m[a:x b:x]",
                    "rule r a,b m", "rule r a,b no"):
            self.check(f"{self.GOOD}\n{row}", 6)
        rule = "rule r a,b m[a:x b:x whole:x]"
        self.check(f"{self.GOOD}\nword a x\nword a x", 7)
        self.check(f"{self.GOOD}\nword a x\nword a y\nword a any\nword a m", 9)
        self.check(f"{self.GOOD}\n{rule}\n{rule}", 7)
        rows = [f"word {name} x" for name in "abcdefghijkl"]
        read_grammar("\n".join([self.GOOD, *rows]))
        self.check("\n".join([self.GOOD, *rows, "word m x"]), 18)
        rows = [rule.replace(" r ", f" {name} ") for name in "klmnop"]
        read_grammar("\n".join([self.GOOD, *rows]))
        self.check("\n".join([self.GOOD, *rows, rule]), 12)

    def test_boxes_that_are_not_at_rest(self):
        self.check(f"{self.GOOD}\nword a k", 6)
        self.check(f"{self.GOOD}\nword a k[on:any]", 6)
        self.check(f"{self.GOOD}\nword b x\nword a k[on:m]", 7)
        self.check(f"{self.GOOD}\nrule r a,b m[a:k b:x whole:x]", 6)
        self.assertEqual(len(read_grammar(f"{self.GOOD}\nword a k[on:x]\nrule r a,b m[a:k[on:y] b:x whole:x]")), 1)

    def test_rows_out_of_order(self):
        rule = "rule r a,b m[a:x b:x whole:x]"
        self.check(f"{self.GOOD}\n{rule}\nword a x", 7)
        self.check(f"{self.GOOD}\nword a x\nword b x\nword a y", 8)
        self.check(f"{self.GOOD}\nword a x\nword b x\nword c x\nword b y\nword d x", 9)
        self.check(f"{self.GOOD}\nword a x\nwords\nword b x", 7)
        self.check(f"{self.GOOD}\nword a x\nkind z any", 7)
        self.check(f"{self.GOOD}\nword a x\n", 7)


class SlowReader:
    """Point [20], row by row: which row is the first that is wrong, or None."""

    def __init__(self):
        self.kinds = Kinds()
        self.grammar = None
        self.last = ""
        self.stage = "kind"

    def bad_row(self, text, of_grammar):
        rows = text.split("\n") if text else []
        for number, row in enumerate(rows):
            try:
                right = self.takes(row, of_grammar)
            except (TraitError, Missing):
                right = False
            if not right:
                return number
        return len(rows) if of_grammar and self.grammar is None else None

    def takes(self, row, of_grammar):
        word = row.split(" ")[0]
        stages = ["kind", "must", "words", "word", "rule"] if of_grammar else ["kind", "must"]
        if word not in stages or stages.index(word) < stages.index(self.stage):
            return False
        if self.grammar is None and word in ("word", "rule"):
            return False
        if word != self.stage:
            self.last = ""
        ahead, self.stage = self.stage, word
        if word == "words":
            self.grammar = Grammar(self.kinds)
            return row == "words" and ahead != "words"
        return getattr(self, "take_" + word)(row)

    def take_kind(self, row):
        found = re.fullmatch("kind ([a-z]+) ([a-z]+(?:,[a-z]+)*)((?: [a-z]+:[a-z]+)*)", row)
        if not found:
            return False
        ups = found[2].split(",")
        rooms = [tuple(pair.split(":")) for pair in found[3].split()]
        self.kinds.put(found[1], ups, rooms=rooms)
        return ups == sorted(set(ups)) and rooms == sorted(rooms)

    def take_must(self, row):
        found = re.fullmatch("must ([a-z]+) (.+)", row)
        if not found or found[1] <= self.last:
            return False
        self.last = found[1]
        self.kinds.must(found[1], read(self.kinds, found[2]))
        return True

    def take_word(self, row):
        found = re.fullmatch("word ([a-z]+) (.+)", row)
        if not found or found[1] != self.last and found[1] in self.grammar.words():
            return False
        self.last = found[1]
        box = read(self.kinds, found[2])
        self.grammar.word(found[1], box)
        return at_rest(self.kinds, box)

    def take_rule(self, row):
        found = re.fullmatch("rule ([a-z]+) ([a-z]+(?:,[a-z]+)*) (.+)", row)
        if not found:
            return False
        box = read(self.kinds, found[3])
        self.grammar.rule(found[1], box, found[2].split(","))
        return at_rest(self.kinds, box)


class TestChangedPages(unittest.TestCase):
    """Pages with something changed by chance."""

    def changed(self, chance, text):
        rows = text.split("\n")
        at, to = chance.randrange(len(rows)), chance.randrange(len(rows))
        sign = chance.choice(" \n,:[]#=abcdwkrs1")
        place = chance.randrange(len(text) + 1)
        return chance.choice((
            lambda: text[:place] + sign + text[place:], lambda: text[:place] + text[place + 1:],
            lambda: text[:place] + sign + text[place + 1:], lambda: "\n".join(rows[:at] + rows[at + 1:]),
            lambda: "\n".join(rows[:at] + [rows[to]] + rows[at:]),
            lambda: "\n".join(rows[:at] + [rows[to]] + rows[at + 1:])))()

    def check(self, call, text, of_grammar):
        row = SlowReader().bad_row(text, of_grammar)
        if row is None:
            page = grammar_page if of_grammar else table_page
            self.assertEqual(page(call(text)), text)
        else:
            self.assertEqual(refused(self, BadPage, call, text).row, row, text)
        return row

    def test_changed_pages(self):
        chance = random.Random(4)
        rows = []
        pages = [SPEECH_PAGE] + [grammar_page(random_grammar(chance, 3, 3)) for count in range(25)]
        for page in pages:
            self.assertIsNone(self.check(read_grammar, page, True))
            for count in range(40):
                rows.append(self.check(read_grammar, self.changed(chance, page), True))
        self.assertGreater(rows.count(None), 20)
        self.assertGreater(len(set(rows)), 10)

    def test_changed_table_pages(self):
        chance = random.Random(5)
        rows = []
        for page in [table_page(random_table(chance, 10)) for count in range(25)]:
            self.assertIsNone(self.check(read_table, page, False))
            for count in range(40):
                rows.append(self.check(read_table, self.changed(chance, page), False))
        self.assertGreater(rows.count(None), 20)
        self.assertGreater(len(set(rows)), 6)


if __name__ == "__main__":
    unittest.main()
