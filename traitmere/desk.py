"""A desk at which lines are answered."""

from traitmere.errors import Missing, TraitError
from traitmere.joins import join
from traitmere.texts import FIGURES, read, written
from traitmere.walks import over

DONE = "done"
NONE = "none"
WHAT = "what"


def answer_undo(grammar):
    """Take the last deed back."""
    grammar.undo()
    return DONE


def answer_redo(grammar):
    """Do again what was taken back last."""
    grammar.redo()
    return DONE


def answer_word(grammar, text):
    """A word gets a meaning."""
    given = name_and_box(grammar, text)
    if given is None:
        return WHAT
    grammar.word(given[0], given[1])
    return DONE


def answer_unword(grammar, text):
    """A word loses a meaning."""
    given = name_and_box(grammar, text)
    if given is None:
        return WHAT
    grammar.unword(given[0], given[1])
    return DONE


def name_and_box(grammar, text):
    """A name and the box that is written behind it, or None."""
    name, gap, behind = text.partition(" ")
    if not name or not behind:
        return None
    return name, read(grammar.kinds(), behind)


def answer_rule(grammar, text):
    """A rule comes."""
    name, gap, behind = text.partition(" ")
    rooms, gap, last = behind.partition(" ")
    parts = rooms.split(",")
    if not name or "" in parts or not last:
        return WHAT
    grammar.rule(name, read(grammar.kinds(), last), parts)
    return DONE


def answer_unrule(grammar, text):
    """A rule goes."""
    if not text or " " in text:
        return WHAT
    grammar.unrule(text)
    return DONE


def answer_read(grammar, text):
    """The readings of a row."""
    words = text.split(" ")
    if "" in words:
        return WHAT
    return " ; ".join([written(box) for box, many in grammar.readings(words)]) or NONE


def answer_count(grammar, text):
    """How many trees all readings of a row have."""
    words = text.split(" ")
    if "" in words:
        return WHAT
    return str(sum([many for box, many in grammar.readings(words)]))


def answer_say(grammar, text):
    """The rows that can be said of a box."""
    figure, gap, behind = text.partition(" ")
    if len(figure) != 1 or figure not in FIGURES or not behind:
        return WHAT
    rows = grammar.said(read(grammar.kinds(), behind), most=int(figure))
    return " ".join(["-".join(row) for row in rows]) or NONE


def answer_join(grammar, text):
    """Two boxes joined."""
    kinds = grammar.kinds()
    boxes = two_boxes(kinds, text)
    if boxes is None:
        return WHAT
    told = join(kinds, boxes[0], boxes[1])
    return NONE if told is None else written(told)


def answer_over(grammar, text):
    """The box over two boxes."""
    kinds = grammar.kinds()
    boxes = two_boxes(kinds, text)
    if boxes is None:
        return WHAT
    return written(over(kinds, boxes[0], boxes[1]))


def two_boxes(kinds, text):
    """The boxes that are written with the one sign between them, or None."""
    texts = text.split(" ; ")
    if len(texts) != 2 or "" in texts:
        return None
    return read(kinds, texts[0]), read(kinds, texts[1])


ALONE = {"undo": answer_undo, "redo": answer_redo}
WITH_TEXT = {"word": answer_word, "unword": answer_unword, "rule": answer_rule, "unrule": answer_unrule,
             "read": answer_read, "count": answer_count, "say": answer_say, "join": answer_join, "over": answer_over}


class Desk:
    """A desk of a grammar, which is handed in and is not its own."""

    def __init__(self, grammar):
        self.held = grammar

    def say(self, line):
        """The answer to a line."""
        try:
            return self.answer(line)
        except (TraitError, Missing) as refusal:
            return f"no {refusal.called}"

    def answer(self, line):
        """The answer to a line, where nothing is refused."""
        if line in ALONE:
            alone = ALONE[line]
            return alone(self.held)
        word, gap, text = line.partition(" ")
        if word not in WITH_TEXT:
            return WHAT
        with_text = WITH_TEXT[word]
        return with_text(self.held, text)

    def grammar(self):
        """The grammar."""
        return self.held
