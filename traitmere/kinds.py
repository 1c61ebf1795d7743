"""Tables of kinds."""

from traitmere.boxes import fits
from traitmere.errors import BadName, BadParts, Forked, Full, NoFit, NoKind, NoMust, NoRoom
from traitmere.errors import Ring, Strange, Taken, Twice, Unfit, Used, Wider
from traitmere.names import is_name
from traitmere.orders import first_fork, has_ring, high_of, low_of, low_of_all

ANY = "any"
MOST_KINDS = 24


class Kinds:
    """Kinds below one another, with rooms and musts.

    What is kept of a single kind is made once and never changed, so that twins may share it.
    """

    def __init__(self):
        self.order = [ANY]
        self.straight = {ANY: ()}
        self.upward = {ANY: {ANY: True}}
        self.own = {ANY: {}}
        self.lets = {ANY: {}}
        self.homes = {}
        self.bound = {}

    def put(self, name, ups=(ANY,), *, rooms=()):
        """Bring in a new kind."""
        self.check_new(name)
        self.check_ups(ups)
        told = self.checked_rooms(ups, rooms)
        lets = self.lets_below(ups, told)
        # The new kind may close a ring of musts, so a trial has it first.
        trial = self.twin()
        trial.place(name, ups, told, lets)
        if has_ring(trial.upward, trial.bound):
            raise Ring(name)
        self.take_over(trial)

    def check_new(self, name):
        """Refuse a name under which no kind can come in."""
        if not is_name(name):
            raise BadName(name)
        if name in self.upward:
            raise Taken(name)
        if len(self.order) >= MOST_KINDS:
            raise Full()

    def check_ups(self, ups):
        """Refuse ups that no new kind can have."""
        for up in ups:
            self.check_kind(up)
        if not ups:
            raise BadParts()
        above = self.above_all(ups)
        fork = first_fork(self.upward, above)
        if fork is not None:
            raise Forked(fork[0], fork[1])

    def check_kind(self, name):
        """Refuse a name of no kind."""
        if name not in self.upward:
            raise NoKind(name)

    def above_all(self, ups):
        """A dict of all kinds that are above some of these."""
        above = {}
        for up in ups:
            above.update(self.upward[up])
        return above

    def checked_rooms(self, ups, rooms):
        """A dict of the rooms that a new kind below these ups tells."""
        above = self.above_all(ups)
        told = {}
        for room, kind in rooms:
            if not is_name(room):
                raise BadName(room)
            self.check_kind(kind)
            if room in told:
                raise Twice(room)
            if room in self.homes and self.homes[room] not in above:
                raise Strange(room)
            if not all([self.is_below(kind, let) for let in self.let_by(ups, room)]):
                raise Wider(room)
            told[room] = kind
        return told

    def let_by(self, ups, room):
        """What those of the ups let that have the room."""
        return [self.lets[up][room] for up in ups if room in self.lets[up]]

    def lets_below(self, ups, told):
        """A dict of what a new kind lets that is below these ups and tells these rooms.

        Lows are those of the table as it is, so the new kind itself is none of them.
        """
        lets = dict(told)
        for room in sorted(self.homes):
            let = self.let_by(ups, room)
            if let and room not in told:
                low = low_of_all(self.upward, let)
                if low is None:
                    raise NoFit(room)
                lets[room] = low
        return lets

    def place(self, name, ups, told, lets):
        """Set a new kind below its ups, with the rooms that it tells and all that it lets."""
        above = self.above_all(ups)
        above[name] = True
        self.order.append(name)
        self.straight[name] = tuple(sorted(set(ups)))
        self.upward[name] = above
        self.own[name] = told
        self.lets[name] = lets
        for room in told:
            self.homes.setdefault(room, name)

    def drop(self, name):
        """Let a kind go that nothing needs."""
        self.check_kind(name)
        if name == ANY or self.is_needed(name):
            raise Used(name)
        self.order.remove(name)
        del self.straight[name], self.upward[name], self.own[name], self.lets[name]
        self.homes = {room: self.homes[room] for room in self.homes if self.homes[room] != name}

    def is_needed(self, name):
        """Whether other kinds or musts need the kind."""
        if len(self.under(name)) > 1 or name in self.bound:
            return True
        if any([name in list(lets.values()) for lets in self.lets.values()]):
            return True
        return any([name == kind for box in self.bound.values() for kind, pairs in box.nodes()])

    def must(self, name, box):
        """Give a kind its must."""
        self.check_kind(name)
        if not fits(self, box) or box.kind() != name:
            raise Unfit()
        if name in self.bound:
            raise Taken(name)
        musts = dict(self.bound)
        musts[name] = box
        if has_ring(self.upward, musts):
            raise Ring(name)
        self.bound = musts

    def free(self, name):
        """Let a kind's must go."""
        self.check_kind(name)
        if name not in self.bound:
            raise NoMust(name)
        del self.bound[name]

    def names(self):
        """All kinds, as they came."""
        return list(self.order)

    def ups(self, name):
        """The kinds right above, rising."""
        self.check_kind(name)
        return list(self.straight[name])

    def above(self, name):
        """All kinds above, rising, the kind itself among them."""
        self.check_kind(name)
        return sorted(self.upward[name])

    def under(self, name):
        """All kinds below, rising, the kind itself among them."""
        self.check_kind(name)
        return sorted([kind for kind in self.order if name in self.upward[kind]])

    def is_below(self, one, other):
        """Whether the one is below the other."""
        self.check_kind(one)
        self.check_kind(other)
        return other in self.upward[one]

    def low(self, one, other):
        """The greatest kind below both, or None."""
        self.check_kind(one)
        self.check_kind(other)
        return low_of(self.upward, one, other)

    def high(self, one, other):
        """The least kind above both."""
        self.check_kind(one)
        self.check_kind(other)
        return high_of(self.upward, one, other)

    def rooms(self, name):
        """Pairs (room, kind) of all rooms that the kind has, rising."""
        self.check_kind(name)
        return sorted(self.lets[name].items())

    def told(self, name):
        """Pairs (room, kind) of the rooms that the kind told, rising."""
        self.check_kind(name)
        return sorted(self.own[name].items())

    def home(self, room):
        """The kind that brought the room in."""
        if room not in self.homes:
            raise NoRoom(room)
        return self.homes[room]

    def let_in(self, name, room):
        """The kind that is let in the kind's room, or None where it hasn't the room."""
        self.check_kind(name)
        return self.lets[name].get(room)

    def must_of(self, name):
        """The kind's must, or None."""
        self.check_kind(name)
        return self.bound.get(name)

    def musts_over(self, name):
        """The musts of the kinds above that have one."""
        return [must for kind, must in self.bound.items() if kind in self.upward[name]]

    def twin(self):
        """A table for itself with all that is in this one."""
        new = Kinds()
        new.take_over(self)
        return new

    def take_over(self, other):
        """Have all that another table has, and nothing else."""
        self.order = list(other.order)
        self.straight = dict(other.straight)
        self.upward = dict(other.upward)
        self.own = dict(other.own)
        self.lets = dict(other.lets)
        self.homes = dict(other.homes)
        self.bound = dict(other.bound)

    def __len__(self):
        return len(self.order)

    def __eq__(self, other):
        return (isinstance(other, Kinds) and self.order == other.order and self.straight == other.straight
                and self.own == other.own and self.bound == other.bound)

    def __repr__(self):
        return f"Kinds({len(self.order)})"
