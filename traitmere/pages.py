"""Pages: tables and grammars written as rows, and read."""

from traitmere.errors import BadPage, Missing, TraitError
from traitmere.grammar import Grammar
from traitmere.kinds import ANY, Kinds
from traitmere.texts import read, written

WORDS = "words"


def table_page(kinds):
    """The page of a table."""
    return "\n".join(table_rows(kinds))


def table_rows(kinds):
    """The rows of a table's page."""
    rows = []
    for name in kinds.names():
        if name != ANY:
            rooms = [f"{room}:{kind}" for room, kind in kinds.told(name)]
            rows.append(" ".join(["kind", name, ",".join(kinds.ups(name))] + rooms))
    for name in sorted(kinds.names()):
        box = kinds.must_of(name)
        if box is not None:
            rows.append(f"must {name} {written(box)}")
    return rows


def grammar_page(grammar):
    """The page of a grammar."""
    return "\n".join(grammar_rows(grammar))


def grammar_rows(grammar):
    """The rows of a grammar's page."""
    rows = table_rows(grammar.kinds())
    rows.append(WORDS)
    for name in grammar.words():
        rows.extend([f"word {name} {written(box)}" for box in grammar.meanings(name)])
    for name in grammar.rules():
        box, parts = grammar.rule_of(name)
        rooms = ",".join(parts)
        rows.append(f"rule {name} {rooms} {written(box)}")
    return rows


def rows_of(text):
    """The rows of a text; the empty one has none."""
    if not text:
        return []
    return text.split("\n")


def read_table(text):
    """The table whose page this is."""
    return table_of(rows_of(text))


def table_of(rows):
    """The table whose page has these rows.

    A row is right where the rows up to it are just those of what they made: so rows that do nothing, that are written
    in another way or that stand in another order come out here.
    """
    kinds = Kinds()
    for number, row in enumerate(rows):
        try:
            do_table_row(kinds, row)
        except (TraitError, Missing):
            raise BadPage(number) from None
        if table_rows(kinds) != rows[:number + 1]:
            raise BadPage(number)
    return kinds


def do_table_row(kinds, row):
    """Do the deed of a row of a table's page; a row of another kind does nothing."""
    word, name, text = pieces_of(row)
    if word == "kind":
        ups, *rooms = text.split(" ")
        kinds.put(name, ups.split(","), rooms=[room_of(piece) for piece in rooms])
    elif word == "must":
        kinds.must(name, read(kinds, text))


def pieces_of(row):
    """A row's first two words and all that is behind them."""
    word, gap, behind = row.partition(" ")
    name, gap, text = behind.partition(" ")
    return word, name, text


def room_of(piece):
    """The pair of a room and a kind that is written so."""
    room, gap, kind = piece.partition(":")
    return room, kind


def read_grammar(text):
    """The grammar whose page this is, with nothing to take back and nothing kept."""
    rows = rows_of(text)
    if WORDS in rows:
        return grammar_of(rows, rows.index(WORDS))
    table_of(rows)
    raise BadPage(len(rows))


def grammar_of(rows, many):
    """The grammar whose page has these rows, of which so many are ahead of the row of words."""
    grammar = Grammar(table_of(rows[:many]))
    for number in range(many + 1, len(rows)):
        try:
            do_grammar_row(grammar, rows[number])
        except (TraitError, Missing):
            raise BadPage(number) from None
        if grammar_rows(grammar) != rows[:number + 1]:
            raise BadPage(number)
    grammar.forget()
    return grammar


def do_grammar_row(grammar, row):
    """Do the deed of a row behind the row of words; a row of another kind does nothing."""
    word, name, text = pieces_of(row)
    if word == "word":
        grammar.word(name, read(grammar.kinds(), text))
    elif word == "rule":
        rooms, gap, text = text.partition(" ")
        grammar.rule(name, read(grammar.kinds(), text), rooms.split(","))
