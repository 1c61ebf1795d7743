import re
import unittest

from tests.tables import refused, small_table, some_boxes
from traitmere.boxes import built
from traitmere.errors import BadText
from traitmere.kinds import Kinds
from traitmere.texts import read, written

GOOD = (
    "any",
    "word",
    "pair[left:word]",
    "pair[left:word right:word]",
    "pair[left:#1=word right:#1]",
    "#1=ring[on:#1]",
    "ring[on:#1=ring[on:#1]]",
    "#1=ring[on:ring[on:#1]]",
    "#1=triple[left:#2=noun mid:#1 right:#2]",
    "triple[left:#1=noun mid:pair[left:#2=ring[on:#2] right:#1] right:#1]",
    "pair[left:pair[left:verb right:#1=noun] right:#1]",
    "#1=pair[left:pair[left:#1 right:#2=noun] right:#2]",
    "pair[left:#1=pair[left:pair[left:#1 right:#2=noun] right:#2] right:#2]",
)


def chain_text(many):
    return "ring[on:" * (many - 1) + "word" + "]" * (many - 1)


class Strict:
    """A second way to tell whether a short text is one: it goes by the words of point [12], sign by sign."""

    def __init__(self, kinds, text):
        self.kinds, self.left, self.tagged, self.used = kinds, text, [], []

    def takes(self, pattern):
        found = re.match(pattern, self.left)
        if found:
            self.left = self.left[found.end():]
        return found

    def node(self, let):
        """Whether a node of a kind that is let stands here."""
        tag = self.takes("#([1-9][0-9]*)(=?)")
        if tag and not tag[2]:
            self.used.append(int(tag[1]))
            return int(tag[1]) <= len(self.tagged) and self.kinds.is_below(self.tagged[int(tag[1]) - 1], let)
        kind = self.takes("[a-z]+")
        if not kind or kind[0] not in self.kinds.names() or not self.kinds.is_below(kind[0], let):
            return False
        if tag:
            self.tagged.append(kind[0])
            if int(tag[1]) != len(self.tagged):
                return False
        return not self.takes(r"\[") or self.rooms(kind[0])

    def rooms(self, kind):
        """Whether rooms of this kind stand here, and the bracket that closes."""
        last = ""
        while True:
            room = self.takes("([a-z]+):")
            if not room or room[1] <= last or self.kinds.let_in(kind, room[1]) is None:
                return False
            last = room[1]
            if not self.node(self.kinds.let_in(kind, last)):
                return False
            if not self.takes(" "):
                return self.takes(r"\]") is not None

    def is_good(self):
        good = self.node("any") and not self.left
        return good and all(at + 1 in self.used for at in range(len(self.tagged)))


class TestWritten(unittest.TestCase):
    def setUp(self):
        self.kinds = small_table()

    def text(self, *nodes):
        return written(built(self.kinds, list(nodes)))

    def test_without_rooms(self):
        self.assertEqual(self.text(("any", [])), "any")

    def test_documents_texts(self):
        self.assertEqual(self.text(("pair", [("left", 1), ("right", 1)]), ("word", [])), "pair[left:#1=word right:#1]")
        self.assertEqual(self.text(("ring", [("on", 0)])), "#1=ring[on:#1]")

    def test_rooms_rise(self):
        nodes = [("triple", [("right", 1), ("mid", 2), ("left", 3)]), ("word", []), ("any", []), ("noun", [])]
        self.assertEqual(self.text(*nodes), "triple[left:noun mid:any right:word]")

    def test_alike_but_not_shared_has_no_tag(self):
        self.assertEqual(self.text(("pair", [("left", 1), ("right", 2)]), ("word", []), ("word", [])),
                         "pair[left:word right:word]")

    def test_several_tags(self):
        nodes = [("triple", [("left", 3), ("mid", 1), ("right", 3)]), ("pair", [("left", 2), ("right", 3)]),
                 ("ring", [("on", 2)]), ("noun", [])]
        self.assertEqual(self.text(*nodes), "triple[left:#1=noun mid:pair[left:#2=ring[on:#2] right:#1] right:#1]")

    def test_a_tag_at_the_root(self):
        nodes = [("triple", [("left", 1), ("mid", 0), ("right", 1)]), ("noun", [])]
        self.assertEqual(self.text(*nodes), "#1=triple[left:#2=noun mid:#1 right:#2]")

    def test_tags_are_numbered_as_they_are_met_first(self):
        nodes = [("pair", [("left", 1), ("right", 3)]), ("pair", [("left", 2), ("right", 3)]),
                 ("pair", [("left", 1), ("right", 3)]), ("noun", [])]
        self.assertEqual(self.text(*nodes), "pair[left:#1=pair[left:pair[left:#1 right:#2=noun] right:#2] right:#2]")

    def test_more_than_nine_tags(self):
        nodes = []
        for at in range(0, 24, 2):
            nodes.append(("triple", [("right", at + 1), ("mid", at + 2), ("left", at + 1)]))
            nodes.append(("noun", []))
        nodes.append(("word", []))
        text = self.text(*nodes)
        self.assertEqual(text, "".join([f"triple[left:#{at + 1}=noun mid:" for at in range(12)]) + "word"
                         + "".join([f" right:#{at + 1}]" for at in reversed(range(12))]))

    def test_only_as_many_tags_as_needed(self):
        for box in some_boxes(4, 200):
            text = written(box)
            ways = [number for kind, pairs in box.nodes() for room, number in pairs] + [0]
            tagged = [number for number in range(len(box)) if ways.count(number) > 1]
            self.assertEqual([text.count(f"#{at + 1}=") for at in range(len(tagged))], [1] * len(tagged))
            self.assertEqual(text.count("#"), sum(ways.count(number) for number in tagged))
            spots = [text.index(f"#{at + 1}") for at in range(len(tagged))]
            self.assertEqual(spots, sorted(spots))

    def test_str_is_the_text(self):
        for box in some_boxes(5, 50):
            self.assertEqual(str(box), written(box))

    def test_by_keyword(self):
        self.assertEqual(written(box=built(self.kinds, [("word", [])])), "word")


class TestRead(unittest.TestCase):
    def setUp(self):
        self.kinds = small_table()

    def check_refused(self, *texts):
        for text in texts:
            with self.subTest(text=text):
                refused(self, BadText, read, self.kinds, text)

    def test_good_texts(self):
        for text in GOOD:
            with self.subTest(text=text):
                box = read(self.kinds, text)
                self.assertEqual(written(box), text)
                self.assertEqual(str(box), text)
                self.assertTrue(built(self.kinds, box.nodes()) == box)

    def test_documents_texts(self):
        self.assertEqual(read(self.kinds, "pair[left:#1=word right:#1]").nodes(), [
            ("pair", [("left", 1), ("right", 1)]), ("word", [])])
        self.assertEqual(read(self.kinds, "#1=ring[on:#1]").nodes(), [("ring", [("on", 0)])])

    def test_back_from_texts(self):
        for box in some_boxes(6, 300):
            again = read(self.kinds, written(box))
            self.assertTrue(again == box)
            self.assertEqual(again.nodes(), box.nodes())

    def test_however_many_nodes(self):
        for many in (40, 41, 100, 5000, 60000):
            text = chain_text(many)
            box = read(self.kinds, text)
            self.assertEqual(len(box), many)
            self.assertTrue(written(box) == text)
            self.assertTrue(read(self.kinds, text) == box)
        self.assertEqual(written(box.behind(["on"] * 59998)), "ring[on:word]")
        self.assertEqual(repr(box), "Box(60000: ring)")
        self.assertEqual(len(box.nodes()), 60000)

    def test_a_long_ring(self):
        text = "#1=" + "ring[on:" * 4000 + "#1" + "]" * 4000
        box = read(self.kinds, text)
        self.assertEqual(len(box), 4000)
        self.assertTrue(str(box) == text)
        self.assertTrue(box.behind(["on"]) == box)

    def test_a_long_chain_with_very_many_tags(self):
        many = 3000
        text = ("".join([f"triple[left:#{at + 1}=noun mid:" for at in range(many)]) + "word"
                + "".join([f" right:#{at + 1}]" for at in reversed(range(many))]))
        box = read(self.kinds, text)
        self.assertEqual(len(box), 2 * many + 1)
        self.assertTrue(written(box) == text)

    def test_empty(self):
        self.check_refused("", " ", "\n")

    def test_blanks(self):
        self.check_refused(" word", "word ", "word\n", "pair [left:word]", "pair[ left:word]", "pair[left :word]",
                           "pair[left: word]", "pair[left:word ]", "pair[left:word  right:word]",
                           "pair[left:wordright:word]", "pair[left:ring[on:word]right:word]",
                           "pair[left:#1=word right: #1]", "pair[left:#1 =word right:#1]",
                           "pair[left:#1= word right:#1]", "pair[left:# 1=word right:#1]",
                           "pair[left:word\nright:word]", "pair[left:word,right:word]", "pair[left:#1=wordright:#1]")

    def test_rooms_out_of_order_or_twice(self):
        self.check_refused("pair[right:word left:word]", "pair[right:#1=word left:#1]", "pair[left:word left:word]",
                           "pair[left:#1=word left:#1]", "triple[left:word right:word mid:word]",
                           "pair[left:word right:word right:word]", "ring[on:none on:word]", "ring[on:word on:none]")

    def test_tags(self):
        self.check_refused("#1=word", "pair[left:#1=word]", "pair[left:#1=word right:word]", "#1=pair[left:word]",
                           "#1", "pair[left:#1 right:#1]", "pair[left:#1 right:#1=word]", "ring[on:#1]",
                           "#2=ring[on:#2]", "#0=ring[on:#0]", "#01=ring[on:#01]", "#1=ring[on:#01]",
                           "#1=ring[on:#2]", "#=ring[on:#]", "#a=ring[on:#a]", "#-1=ring[on:#-1]", "1=ring[on:1]",
                           "#1:ring[on:#1]", "#1ring[on:#1]", "##1=ring[on:##1]", "#1==ring[on:#1]",
                           "#1=#1=ring[on:#1]", "#1=ring[on:#1=ring[on:#1]]", "#1=ring[on:#1=]", "#1=#1",
                           "pair[left:#1=word right:#1=word]", "pair[left:word right:#1]",
                           "pair[left:#1=word right:#1=]", "#1=", "#", "#1=ring[on:#1[on:#1]]",
                           "#+1=ring[on:#+1]", "#1 =ring[on:#1]", "#1_0=ring[on:#1_0]",
                           "#2=triple[left:#1=noun mid:#2 right:#1]", "#1=triple[left:#1=noun mid:#1 right:#1]",
                           "#1=triple[left:#3=noun mid:#1 right:#3]",
                           "triple[left:#2=noun mid:pair[left:#1=ring[on:#1] right:#2] right:#2]")

    def test_a_tag_of_very_many_figures(self):
        tag = "#" + "1" * 6000
        self.check_refused(f"{tag}=ring[on:{tag}]", tag, "#" + "0" * 6000 + "1=ring[on:#1]")

    def test_brackets(self):
        self.check_refused("word[", "word[]", "pair[]", "pair[left:word", "pair[left:word right:word",
                           "pair[left:ring[on:word]", "pair[left:word]]", "]", "[", "[]", "pair]", "pair[left]",
                           "pair[left:]", "pair[:word]", "pair[:]", "pair[word]", "pair[left::word]", "pair(left:word)",
                           "pair[left:word[] right:word]", "[left:word]", "pair[[left:word]]", "pair[left:[on:word]]")

    def test_signs_behind_the_end(self):
        self.check_refused("wordx", "word]", "word[", "word:", "word#1", "word=", "word word", "#1=ring[on:#1]]",
                           "#1=ring[on:#1]x", "#1=ring[on:#1]#1", "pair[left:word] right:word", "word;", "word\nword",
                           "pair[left:word][right:word]")

    def test_signs_that_never_stand_in_a_text(self):
        self.check_refused("Word", "WORD", "w0rd", "word1", "wo_rd", "~", "pair[left:word|right:word]",
                           "pair{left:word}")

    def test_kinds_that_are_not_there(self):
        self.check_refused("none", "words", "wor", "ring[on:none]", "none[on:word]", "pair[left:word right:none]")

    def test_rooms_that_are_not_there(self):
        self.check_refused("ring[off:word]", "word[on:word]", "pair[mid:word]", "any[on:word]", "ring[o:word]",
                           "ring[ons:word]", "ring[left:word on:word]")

    def test_boxes_that_do_not_fit(self):
        self.check_refused("pair[right:any]", "pair[right:ring]", "triple[left:any]", "#1=pair[right:#1]",
                           "ring[on:ring[on:pair[left:word right:pair]]]")

    def test_texts_next_to_a_good_one(self):
        signs = "#=[]: 12awx\n"
        good = []
        for text in GOOD:
            near = {text[:at] + text[at + 1:] for at in range(len(text))}
            near |= {text[:at] + sign + text[at:] for at in range(len(text) + 1) for sign in signs}
            near |= {text[:at] + sign + text[at + 1:] for at in range(len(text)) for sign in signs}
            near |= {text[:at] for at in range(len(text))}
            near |= {text.replace(one, other) for one in self.kinds.names() for other in self.kinds.names()}
            for other in sorted(near):
                with self.subTest(text=other):
                    if Strict(self.kinds, other).is_good():
                        self.assertEqual(written(read(self.kinds, other)), other)
                        good.append(other)
                    else:
                        refused(self, BadText, read, self.kinds, other)
        self.assertGreater(len(good), 20)

    def test_of_the_table_as_it_is_now(self):
        kinds = Kinds()
        refused(self, BadText, read, kinds, "new")
        kinds.put("new", rooms=[("in", "any")])
        self.assertEqual(read(kinds, "new[in:any]").nodes(), [("new", [("in", 1)]), ("any", [])])
        kinds.drop("new")
        refused(self, BadText, read, kinds, "new[in:any]")

    def test_refusal_is_by_its_name(self):
        self.assertEqual(refused(self, BadText, read, self.kinds, "").called, "BadText")

    def test_by_keyword_changes_nothing(self):
        before = self.kinds.twin()
        self.assertTrue(read(text="word", kinds=self.kinds) == read(kinds=self.kinds, text="word"))
        self.assertTrue(self.kinds == before)


if __name__ == "__main__":
    unittest.main()
