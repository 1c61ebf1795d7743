"""Grammars: words with meanings, and rules that make readings of readings."""

from traitmere.boxes import fits
from traitmere.chart import WHOLE, Chart, all_rows
from traitmere.errors import BadMost, BadName, BadParts, BadRow, Full, NoMeaning, NoRest, NoRule, NothingLeft, NoWord
from traitmere.errors import Taken, Unfit
from traitmere.joins import join, rest
from traitmere.names import is_name
from traitmere.texts import written

MOST_WORDS = 12
MOST_RULES = 6
MOST_MEANINGS = 3
MOST_PARTS = 3
LONGEST_ROW = 6
LONGEST_SAID = 4


class Stock:
    """Words with tuples of their meanings, and rules as pairs of a box and its parts, both as they came."""

    def __init__(self, table, lexicon, makings):
        self.table = table
        self.lexicon = lexicon
        self.makings = makings

    def twin(self):
        """A stock for itself with all that is in this one."""
        return Stock(self.table, dict(self.lexicon), dict(self.makings))

    def listed(self):
        """All of it in lists, so that orders count where it is compared."""
        return list(self.lexicon.items()), list(self.makings.items())

    def do(self, deed):
        """Do a deed: a tuple of its word, a name and what else belongs to it."""
        word, name, *more = deed
        if word == "word":
            self.add_word(name, more[0])
        elif word == "unword":
            self.drop_word(name, more[0])
        elif word == "rule":
            self.add_rule(name, more[0], more[1])
        else:
            self.drop_rule(name)

    def add_word(self, name, box):
        """Give a word a meaning."""
        if not is_name(name):
            raise BadName(name)
        meaning = self.rest_of(box)
        meanings = self.lexicon.get(name, ())
        if meaning in meanings:
            raise Taken(name)
        if len(meanings) >= MOST_MEANINGS or (not meanings and len(self.lexicon) >= MOST_WORDS):
            raise Full()
        self.lexicon[name] = (*meanings, meaning)

    def rest_of(self, box):
        """The rest of a box that fits and has one."""
        if not fits(self.table, box):
            raise Unfit()
        told = rest(self.table, box)
        if told is None:
            raise NoRest()
        return told

    def drop_word(self, name, box):
        """Take a meaning from a word; without meanings it is no word any more."""
        if name not in self.lexicon:
            raise NoWord(name)
        if box not in self.lexicon[name]:
            raise NoMeaning()
        self.lexicon[name] = tuple([meaning for meaning in self.lexicon[name] if not meaning == box])
        if not self.lexicon[name]:
            del self.lexicon[name]

    def add_rule(self, name, box, parts):
        """Bring in a rule."""
        if not is_name(name):
            raise BadName(name)
        if name in self.makings:
            raise Taken(name)
        if len(self.makings) >= MOST_RULES:
            raise Full()
        if not fits(self.table, box):
            raise Unfit()
        if not are_parts(box, parts):
            raise BadParts()
        self.makings[name] = (self.rest_of(box), tuple(parts))

    def drop_rule(self, name):
        """Let a rule go."""
        if name not in self.makings:
            raise NoRule(name)
        del self.makings[name]


def are_parts(box, parts):
    """Whether these can be a rule's parts, as the box is handed in."""
    rooms = dict(box.rows[0][1])
    if len(parts) < 2 or len(parts) > MOST_PARTS or len(set(parts)) < len(parts):
        return False
    return WHOLE in rooms and WHOLE not in parts and all([part in rooms for part in parts])


class Grammar:
    """A table with words and rules, deeds that can be taken back, and readings that are kept.

    A stock that stands here is never changed: deeds try a twin, which takes its place. So what can be taken back or
    done again has but to hold on to the stocks that stood then.
    """

    def __init__(self, kinds):
        self.table = kinds.twin()
        self.stock = Stock(self.table, {}, {})
        self.past = []
        self.future = []
        self.found = {}

    def word(self, name, box):
        """A word gets a meaning."""
        self.together([("word", name, box)])

    def unword(self, name, box):
        """A word loses a meaning."""
        self.together([("unword", name, box)])

    def rule(self, name, box, parts):
        """A rule comes."""
        self.together([("rule", name, box, parts)])

    def unrule(self, name):
        """A rule goes."""
        self.together([("unrule", name)])

    def together(self, deeds):
        """Do all of these deeds as one, or none of them."""
        trial = self.stock.twin()
        for deed in deeds:
            trial.do(deed)
        if deeds:
            turns = turned_by(deeds)
            self.past.append((self.stock, turns))
            self.future = []
            self.have(trial, turns)

    def undo(self):
        """Take the last deed back."""
        if not self.past:
            raise NothingLeft()
        stock, turns = self.past.pop()
        self.future.append((self.stock, turns))
        self.have(stock, turns)

    def redo(self):
        """Do again what was taken back last."""
        if not self.future:
            raise NothingLeft()
        stock, turns = self.future.pop()
        self.past.append((self.stock, turns))
        self.have(stock, turns)

    def have(self, stock, turns):
        """Have this stock from now on, and let the rows go that turn by it."""
        self.stock = stock
        self.found = {row: self.found[row] for row in self.found if not is_turned(row, turns)}

    def forget(self):
        """Have nothing to take back or to do again, and nothing kept."""
        self.past = []
        self.future = []
        self.found = {}

    def words(self):
        """All words, as they came."""
        return list(self.stock.lexicon)

    def meanings(self, name):
        """A word's meanings, as they came."""
        if name not in self.stock.lexicon:
            raise NoWord(name)
        return list(self.stock.lexicon[name])

    def rules(self):
        """The names of all rules, as they came."""
        return list(self.stock.makings)

    def rule_of(self, name):
        """A rule's box and the list of its parts."""
        if name not in self.stock.makings:
            raise NoRule(name)
        box, parts = self.stock.makings[name]
        return box, list(parts)

    def kinds(self):
        """A twin of the table."""
        return self.table.twin()

    def steps(self):
        """How many deeds can be taken back."""
        return len(self.past)

    def chart(self):
        """A new chart of the words and rules that stand."""
        return Chart(self.table, self.stock.lexicon, self.stock.makings)

    def checked_row(self, row):
        """The row as a tuple, of words that there are."""
        if len(row) < 1 or len(row) > LONGEST_ROW:
            raise BadRow()
        for name in row:
            if name not in self.stock.lexicon:
                raise NoWord(name)
        return tuple(row)

    def readings(self, row, *, goal=None):
        """Pairs of a row's readings, or those that can be joined with the goal, and the numbers of their trees."""
        words = self.checked_row(row)
        if words not in self.found:
            found = self.chart().readings_of(words)
            self.found[words] = [(found[text].box, found[text].many) for text in sorted(found)]
        return [(box, many) for box, many in self.found[words] if goal is None or self.goes_with(box, goal)]

    def goes_with(self, box, goal):
        """Whether both can be joined."""
        return join(self.table, box, goal) is not None

    def tree(self, row, box):
        """The text of one of the trees by which a row makes this box."""
        found = self.chart().readings_of(self.checked_row(row))
        text = written(box)
        if text not in found:
            raise NoMeaning()
        return found[text].shape

    def is_tree(self, row, box, text):
        """Whether the text is a tree by which the row makes this box."""
        told = self.chart().grown(self.checked_row(row), text)
        return told is not None and told == box

    def said(self, goal, *, most=3):
        """All rows of at most so many words with a reading that can be joined with the goal, rising."""
        if most < 1 or most > LONGEST_SAID:
            raise BadMost(most)
        chart = self.chart()
        good = {}
        told = []
        for row in all_rows(self.words(), most):
            found = chart.readings_of(row)
            for text in found:
                if text not in good:
                    good[text] = self.goes_with(found[text].box, goal)
            if any([good[text] for text in found]):
                told.append(row)
        return told

    def kept(self):
        """The rows whose readings are kept, in the order in which they were first asked."""
        return list(self.found)

    def twin(self):
        """A grammar for itself with all that is in this one."""
        new = Grammar(self.table)
        new.stock = self.stock
        new.past = list(self.past)
        new.future = list(self.future)
        new.found = {row: self.found[row] for row in self.found}
        return new

    def __len__(self):
        return len(self.stock.lexicon)

    def __eq__(self, other):
        return isinstance(other, Grammar) and self.table == other.table and self.stock.listed() == other.stock.listed()


def turned_by(deeds):
    """A dict of the words that deeds turn, and whether they turn rules."""
    words = {deed[1]: True for deed in deeds if deed[0] in ("word", "unword")}
    return words, any([deed[0] in ("rule", "unrule") for deed in deeds])


def is_turned(row, turns):
    """Whether a row's readings may be others where these words and rules turn."""
    words, rules = turns
    return (rules and len(row) > 1) or any([name in words for name in row])
