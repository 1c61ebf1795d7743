"""Charts: the readings of rows of words, and their trees."""

from traitmere.texts import written
from traitmere.web import Web

WHOLE = "whole"


class Reading:
    """A box that a row means, its text, how many trees make it, and one of these trees."""

    def __init__(self, box, text, many, shape):
        self.box = box
        self.text = text
        self.many = many
        self.shape = shape


class Chart:
    """What is found of rows of words by a dict of words, each with its meanings, and one of rules.

    Rows of the same words have the same readings, wherever they stand, so each is looked at once. The like holds for
    what a rule makes of the same readings.
    """

    def __init__(self, table, lexicon, makings):
        self.table = table
        self.lexicon = lexicon
        self.makings = makings
        self.bases = {}
        self.charted = {}
        self.results = {}

    def base(self, name):
        """A rule's box in a web, with its root as thing 0."""
        if name not in self.bases:
            web = Web(self.table)
            box = self.makings[name][0]
            web.lay(web.bring(box.kind()), box)
            web.settle()
            self.bases[name] = web
        return self.bases[name]

    def made(self, name, boxes):
        """What a rule makes of boxes, or None; None, too, where there is no such rule of as many parts."""
        if name not in self.makings or len(self.makings[name][1]) != len(boxes):
            return None
        web = self.base(name).twin()
        for part, box in zip(self.makings[name][1], boxes):
            web.lay(web.inside(0, part), box)
        if not web.settle():
            return None
        return web.told(web.inside(0, WHOLE))

    def readings_of(self, row):
        """A dict of a row's readings, by their texts."""
        if row not in self.charted:
            found = {}
            if len(row) == 1:
                for number, box in enumerate(self.lexicon[row[0]]):
                    add_reading(found, Reading(box, written(box), 1, f"{row[0]}.{number}"))
            for name in self.makings:
                for stretches in cuts(row, len(self.makings[name][1])):
                    self.add_made(found, name, stretches)
            self.charted[row] = found
        return self.charted[row]

    def add_made(self, found, name, stretches):
        """Have what a rule makes of the readings of stretches."""
        for inner in choices([list(self.readings_of(stretch).values()) for stretch in stretches]):
            texts = [reading.text for reading in inner]
            key = (name, *texts)
            if key not in self.results:
                box = self.made(name, [reading.box for reading in inner])
                self.results[key] = None if box is None else (box, written(box))
            if self.results[key] is not None:
                box, text = self.results[key]
                many = 1
                for reading in inner:
                    many *= reading.many
                shapes = " ".join([reading.shape for reading in inner])
                add_reading(found, Reading(box, text, many, f"({name} {shapes})"))

    def grown(self, row, text):
        """The box that a tree of the row makes, or None where the text is no tree of it."""
        inner = [("", [])]
        at = 0
        for piece in text.split(" "):
            if piece.startswith("("):
                inner.append((piece[1:], []))
            else:
                leaf = piece.rstrip(")")
                box = self.closed(inner, self.leaf_box(row, at, leaf), len(piece) - len(leaf))
                if box is None:
                    return None
                inner[-1][1].append(box)
                at += 1
        boxes = inner[0][1]
        if len(inner) > 1 or len(boxes) != 1 or at != len(row):
            return None
        return boxes[0]

    def leaf_box(self, row, at, leaf):
        """The meaning that a leaf tells of the row's word at this place, or None."""
        if at >= len(row):
            return None
        for number, box in enumerate(self.lexicon[row[at]]):
            if leaf == f"{row[at]}.{number}":
                return box
        return None

    def closed(self, inner, box, many):
        """What the innermost rules make, so many of which end with this box, or None; they are taken off."""
        for count in range(many):
            if box is None or len(inner) < 2:
                return None
            name, boxes = inner.pop()
            boxes.append(box)
            box = self.made(name, boxes)
        return box


def add_reading(found, reading):
    """Have a reading; where a like one was found already, its trees are more."""
    if reading.text in found:
        like = found[reading.text]
        like.many += reading.many
    else:
        found[reading.text] = reading


def cuts(row, many):
    """All ways to cut a row into so many stretches, none of them empty."""
    if many == 1:
        return [(row,)]
    return [(row[:at], *behind) for at in range(1, len(row) - many + 2) for behind in cuts(row[at:], many - 1)]


def choices(rows):
    """All ways to take one of each row."""
    chosen = [()]
    for row in rows:
        chosen = [(*ahead, item) for ahead in chosen for item in row]
    return chosen


def all_rows(words, most):
    """All rows of at most so many words, rising."""
    rows = []
    for many in range(1, most + 1):
        rows.extend(choices([words for count in range(many)]))
    return sorted(rows)
