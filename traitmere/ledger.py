"""What follows of boxes being one, with rows that show it."""

from traitmere.web import hand_over


class Ledger:
    """Nodes of boxes, numbered as they come, that grow together, and the rows of a paper that show each step.

    Nodes that are one have one head among them. Of each other one a row tells that the head and it are one, and of
    each head a row tells the lowest kind that is known of it. Rows name only rows ahead of them; many aren't needed
    in the end.
    """

    def __init__(self, table):
        self.table = table
        self.rows = []
        self.known = {}
        self.heads = []
        self.crowds = []
        self.links = []
        self.grounds = []
        self.inner = []
        self.doors = []
        self.heeded = []
        self.waiting = []
        self.turned = []
        self.calmed = []
        self.broken = False

    def write(self, row):
        """The number of a row, which is written once alone."""
        if row not in self.known:
            self.known[row] = len(self.rows)
            self.rows.append(row)
        return self.known[row]

    def put_in(self, box, lead):
        """Have a box's nodes, which are named by this lead and their numbers; tells its root."""
        first = len(self.heads)
        for number, (kind, pairs) in enumerate(box.rows):
            node = first + number
            self.heads.append(node)
            self.crowds.append([node])
            self.links.append(None)
            self.grounds.append((kind, self.write(("own", (*lead, number)))))
            self.inner.append({room: first + there for room, there in pairs})
            self.doors.append({room: node for room, there in pairs})
            self.heeded.append({})
            self.turned.append(node)
        return first

    def one_row(self, one, other):
        """A row that tells that two unlike nodes of one head are one, in this order."""
        if self.links[one] is None:
            return self.links[other]
        turn = self.write(("turn", self.links[one]))
        if self.links[other] is None:
            return turn
        return self.write(("chain", turn, self.links[other]))

    def kind_row(self, node):
        """A row that tells that a node is of the kind that is known of its head."""
        row = self.grounds[self.heads[node]][1]
        if self.links[node] is None:
            return row
        return self.write(("too", self.links[node], row))

    def learn(self, node, kind, row):
        """A row tells that a node is of a kind."""
        at = self.heads[node]
        old, ground = self.grounds[at]
        if self.table.is_below(old, kind):
            return
        if node != at:
            row = self.write(("too", self.one_row(node, at), row))
        low = self.table.low(old, kind)
        if low is None:
            self.write(("none", ground, row))
            self.broken = True
            return
        if low != kind:
            row = self.write(("meet", ground, row))
        self.grounds[at] = (low, row)
        self.turned.append(at)

    def unite(self, one, other, row):
        """A row tells that two nodes are one, in this order."""
        at = self.heads[one]
        gone = self.heads[other]
        if at == gone:
            return
        if len(self.crowds[at]) < len(self.crowds[gone]):
            one, other, at, gone, row = other, one, gone, at, self.write(("turn", row))
        if one != at:
            row = self.write(("chain", self.links[one], row))
        if other != gone:
            row = self.write(("chain", row, self.write(("turn", self.links[other]))))
        for node in self.crowds[gone]:
            self.heads[node] = at
            self.links[node] = row if node == gone else self.write(("chain", row, self.links[node]))
        self.crowds[at].extend(self.crowds[gone])
        self.heeded[at].update(self.heeded[gone])
        self.turned.append(at)
        for room, first, second in hand_over(self.doors[gone], self.doors[at]):
            self.waiting.append((first, second, room))
        kind, ground = self.grounds[gone]
        self.learn(gone, kind, ground)

    def step(self, one, other, room):
        """Two nodes are one, and so are those to which their room leads."""
        first = self.inner[one][room]
        second = self.inner[other][room]
        if self.heads[first] != self.heads[second]:
            self.unite(first, second, self.write(("step", self.one_row(one, other), room)))

    def settle(self):
        """Find all that follows, or the row that tells that it can't be; tells whether it can be.

        Musts come last, so that as much as can be is one already where a must is put in.
        """
        while not self.broken and (self.waiting or self.turned or self.calmed):
            if self.waiting:
                one, other, room = self.waiting.pop()
                self.step(one, other, room)
            elif self.turned:
                at = self.heads[self.turned.pop()]
                self.heed_lets(at)
                self.calmed.append(at)
            else:
                self.heed_musts(self.heads[self.calmed.pop()])
        return not self.broken

    def heed_lets(self, at):
        """What stands in a head's rooms is of what its kind lets there."""
        for room, node in self.doors[at].items():
            there = self.inner[node][room]
            let = self.table.let_in(self.grounds[at][0], room)
            if not self.broken and not self.table.is_below(self.grounds[self.heads[there]][0], let):
                self.learn(there, let, self.write(("let", self.kind_row(node), room)))

    def heed_musts(self, at):
        """Put in a must that a head's kind asks for and that wasn't put in yet; one at a time."""
        kind, row = self.grounds[at]
        for must in self.table.musts_over(kind):
            if must.kind() not in self.heeded[at]:
                self.heeded[at][must.kind()] = True
                # A must may be put in at two nodes by two rows that look the same, so these rows aren't looked up.
                number = len(self.rows)
                self.rows.append(("must", row, must.kind()))
                self.unite(at, self.put_in(must, ("must", number)), number)
                self.calmed.append(at)
                return
