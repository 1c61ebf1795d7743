"""Texts of boxes, written and read."""

from traitmere.boxes import Box, fits
from traitmere.errors import BadText
from traitmere.names import LETTERS
from traitmere.rows import numbered, text_of

FIGURES = "0123456789"


class Scan:
    """A text on the way to its nodes.

    It lets many texts through that aren't so written, since `read` writes the box anew and compares. Each turn takes
    a sign, so that every text comes to an end; tags stay texts, as they may have more figures than Python counts.
    """

    def __init__(self, text):
        self.text = text
        self.at = 0
        self.rows = []
        self.tagged = {}
        self.inner = []

    def takes(self, sign):
        """Whether the sign stands here; then it is passed."""
        if not self.text.startswith(sign, self.at):
            return False
        self.at += 1
        return True

    def stretch(self, signs):
        """As many of these signs as stand here; they are passed."""
        begin = self.at
        while self.at < len(self.text) and self.text[self.at] in signs:
            self.at += 1
        return self.text[begin:self.at]

    def enter_node(self):
        """Pass a node's text up to and with its open bracket, and tell its number."""
        tag = None
        if self.takes("#"):
            tag = self.stretch(FIGURES)
            if not self.takes("="):
                return self.number_of(tag)
        number = len(self.rows)
        self.rows.append((self.stretch(LETTERS), {}))
        if tag is not None:
            self.tagged[tag] = number
        if self.takes("["):
            self.inner.append(number)
        return number

    def number_of(self, tag):
        """The node that has had this tag."""
        if tag not in self.tagged:
            raise BadText()
        return self.tagged[tag]

    def enter_room(self):
        """Pass a room of the node whose bracket stands open, into the node to which it leads."""
        holder = self.inner[-1]
        self.takes(" ")
        room = self.stretch(LETTERS)
        if not self.takes(":"):
            raise BadText()
        there = self.enter_node()
        self.rows[holder][1][room] = there


def scanned(text):
    """Rows of the nodes that stand in the text, the root first."""
    scan = Scan(text)
    scan.enter_node()
    while scan.inner:
        if scan.takes("]"):
            scan.inner.pop()
        else:
            scan.enter_room()
    return [(kind, list(rooms.items())) for kind, rooms in scan.rows]


def written(box):
    """The box's text."""
    return text_of(box.rows)


def read(kinds, text):
    """The box that is written so and fits the table."""
    box = Box(numbered(scanned(text), 0))
    if not fits(kinds, box) or written(box) != text:
        raise BadText()
    return box
