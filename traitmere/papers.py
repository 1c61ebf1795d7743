"""Papers, which show that two boxes aren't joined."""

from traitmere.ledger import Ledger

# What stands behind a row's word: r a row's number, n a node, t a text.
FORMS = {"roots": "", "step": "rt", "turn": "r", "chain": "rr", "own": "n", "too": "rr", "meet": "rr", "let": "rt",
         "must": "rt", "none": "rr"}


def clash(kinds, one, other):
    """A paper that shows that two boxes aren't joined, or None where they are."""
    ledger = Ledger(kinds)
    first = ledger.put_in(one, ("one",))
    second = ledger.put_in(other, ("other",))
    ledger.unite(first, second, ledger.write(("roots",)))
    if ledger.settle():
        return None
    return only_needed(ledger.rows)


def only_needed(rows):
    """The last row and all that it needs, numbered anew."""
    needed = {len(rows) - 1: True}
    for number in reversed(range(len(rows))):
        if number in needed:
            needed.update({named: True for named in named_by(rows[number])})
    numbers = {}
    for number in sorted(needed):
        numbers[number] = len(numbers)
    return [renamed(rows[number], numbers) for number in numbers]


def named_by(row):
    """The numbers of the rows that a row names."""
    named = [given for form, given in zip(FORMS[row[0]], row[1:]) if form == "r"]
    if row[0] == "own" and row[1][0] == "must":
        named.append(row[1][1])
    return named


def renamed(row, numbers):
    """The row with the new numbers of the rows that it names."""
    given = [numbers[each] if form == "r" else each for form, each in zip(FORMS[row[0]], row[1:])]
    if row[0] == "own" and row[1][0] == "must":
        given = [("must", numbers[row[1][1]], row[1][2])]
    return (row[0], *given)


class Proof:
    """The rows of a paper that were looked at: what each tells, as two nodes that are one or as a node's kind."""

    def __init__(self, table, one, other):
        self.table = table
        self.sides = {"one": one, "other": other}
        self.musts = {}
        self.same = []
        self.sorts = []
        self.ended = False

    def has_row(self, number):
        """Whether this is the number of a row ahead."""
        return is_number(number) and 0 <= number < len(self.same)

    def box_of(self, node):
        """The box in which a node would stand, or None."""
        if not isinstance(node, tuple) or not node or not isinstance(node[0], str):
            return None
        if node[0] == "must" and len(node) == 3 and self.has_row(node[1]):
            return self.musts.get(node[1])
        if node[0] in self.sides and len(node) == 2:
            return self.sides[node[0]]
        return None

    def has_node(self, node):
        """Whether this names a node."""
        box = self.box_of(node)
        return box is not None and is_number(node[-1]) and 0 <= node[-1] < len(box)

    def kind_at(self, node):
        """A node's own kind."""
        return self.box_of(node).rows[node[-1]][0]

    def doors_at(self, node):
        """A dict of the nodes to which a node's rooms lead."""
        return {room: (*node[:-1], there) for room, there in self.box_of(node).rows[node[-1]][1]}

    def has_form(self, row):
        """Whether a row has a word, and behind it what belongs there."""
        if not isinstance(row, tuple) or not row or not isinstance(row[0], str) or row[0] not in FORMS:
            return False
        forms = FORMS[row[0]]
        return len(row) == len(forms) + 1 and all([self.suits(form, given) for form, given in zip(forms, row[1:])])

    def suits(self, form, given):
        """Whether something is of a form."""
        if form == "r":
            return self.has_row(given)
        if form == "n":
            return self.has_node(given)
        return isinstance(given, str)

    def takes_row(self, row):
        """Whether a row is right behind the rows ahead; then it is one of them."""
        if self.ended or not self.has_form(row):
            return False
        tell = TELLS[row[0]]
        given = row[1:]
        pair = tell(self, *given)
        if pair is None:
            return False
        tells_kind = row[0] in ("own", "too", "meet", "let")
        self.same.append(None if tells_kind else pair)
        self.sorts.append(pair if tells_kind else None)
        return True

    def both_sorts(self, one, other):
        """The node and the two kinds that two rows tell of it, or None."""
        first = self.sorts[one]
        second = self.sorts[other]
        if first is None or second is None or first[0] != second[0]:
            return None
        return first[0], first[1], second[1]


def is_number(given):
    """Whether something is a whole number."""
    return isinstance(given, int) and not isinstance(given, bool)


def tell_roots(proof):
    """The roots are one."""
    return ("one", 0), ("other", 0)


def tell_step(proof, row, room):
    """What stands in a room of two nodes that are one is one."""
    pair = proof.same[row]
    if pair is None:
        return None
    first = proof.doors_at(pair[0])
    second = proof.doors_at(pair[1])
    if room not in first or room not in second:
        return None
    return first[room], second[room]


def tell_turn(proof, row):
    """Two are one, the other one first."""
    pair = proof.same[row]
    if pair is None:
        return None
    return pair[1], pair[0]


def tell_chain(proof, row, later):
    """Two are one with the same, and so with one another."""
    first = proof.same[row]
    second = proof.same[later]
    if first is None or second is None or first[1] != second[0]:
        return None
    return first[0], second[1]


def tell_own(proof, node):
    """A node is of its own kind."""
    return node, proof.kind_at(node)


def tell_too(proof, row, later):
    """What is one with a node is of its kind."""
    pair = proof.same[row]
    sort = proof.sorts[later]
    if pair is None or sort is None or pair[0] != sort[0]:
        return None
    return pair[1], sort[1]


def tell_meet(proof, row, later):
    """A node is of the low of two kinds."""
    both = proof.both_sorts(row, later)
    if both is None:
        return None
    low = proof.table.low(both[1], both[2])
    if low is None:
        return None
    return both[0], low


def tell_let(proof, row, room):
    """What stands in a node's room is of what is let there."""
    sort = proof.sorts[row]
    if sort is None:
        return None
    doors = proof.doors_at(sort[0])
    let = proof.table.let_in(sort[1], room)
    if room not in doors or let is None:
        return None
    return doors[room], let


def tell_must(proof, row, kind):
    """A node is one with the root of a must that is put in."""
    sort = proof.sorts[row]
    if sort is None or kind not in proof.table.above(sort[1]):
        return None
    must = proof.table.must_of(kind)
    if must is None:
        return None
    number = len(proof.same)
    proof.musts[number] = must
    return sort[0], ("must", number, 0)


def tell_none(proof, row, later):
    """Two kinds of a node have no low: the end."""
    both = proof.both_sorts(row, later)
    if both is None or proof.table.low(both[1], both[2]) is not None:
        return None
    proof.ended = True
    return both[1], both[2]


TELLS = {"roots": tell_roots, "step": tell_step, "turn": tell_turn, "chain": tell_chain, "own": tell_own,
         "too": tell_too, "meet": tell_meet, "let": tell_let, "must": tell_must, "none": tell_none}


def shows(kinds, one, other, rows):
    """Whether rows are a paper that shows that two boxes aren't joined."""
    proof = Proof(kinds, one, other)
    met = {}
    named = {}
    for row in rows:
        if not proof.takes_row(row) or row in met:
            return False
        if row[0] != "must":
            met[row] = True
        named.update({number: True for number in named_by(row)})
    return proof.ended and len(named) == len(rows) - 1
