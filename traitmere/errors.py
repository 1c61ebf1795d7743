"""All refusals. Each one tells its own name in `called`, and what it is about in its other fields."""

# Numbers stay out of the messages: Python refuses to write out a number of very many digits.


class TraitError(ValueError):
    """What is asked for is refused."""

    def __init__(self, called, about=""):
        ValueError.__init__(self, f"{called}({about})")
        self.called = called


class Taken(TraitError):
    """There is one of this name already, or a must or a like meaning."""

    def __init__(self, name):
        TraitError.__init__(self, "Taken", name)
        self.name = name


class Full(TraitError):
    """No more can come in."""

    def __init__(self):
        TraitError.__init__(self, "Full")


class Forked(TraitError):
    """Two kinds above a new kind have a low already that it isn't below."""

    def __init__(self, one, other):
        TraitError.__init__(self, "Forked", f"{one} {other}")
        self.one = one
        self.other = other


class Twice(TraitError):
    """A room is told twice."""

    def __init__(self, room):
        TraitError.__init__(self, "Twice", room)
        self.room = room


class Strange(TraitError):
    """A kind tells a room whose home isn't above it."""

    def __init__(self, room):
        TraitError.__init__(self, "Strange", room)
        self.room = room


class Wider(TraitError):
    """A kind lets more in a room than the kinds right above it let."""

    def __init__(self, room):
        TraitError.__init__(self, "Wider", room)
        self.room = room


class NoFit(TraitError):
    """What the kinds right above a new kind let in a room has no low."""

    def __init__(self, room):
        TraitError.__init__(self, "NoFit", room)
        self.room = room


class Ring(TraitError):
    """A kind's must would lead on to the kind itself."""

    def __init__(self, name):
        TraitError.__init__(self, "Ring", name)
        self.name = name


class Used(TraitError):
    """A kind is needed and can't go."""

    def __init__(self, name):
        TraitError.__init__(self, "Used", name)
        self.name = name


class Unfit(TraitError):
    """A box doesn't fit the table."""

    def __init__(self):
        TraitError.__init__(self, "Unfit")


class BadName(TraitError):
    """A name isn't one to eight small letters."""

    def __init__(self, name):
        TraitError.__init__(self, "BadName", name)
        self.name = name


class BadNodes(TraitError):
    """There are too few or too many nodes, or a room leads to no node."""

    def __init__(self, at):
        TraitError.__init__(self, "BadNodes")
        self.at = at


class BadText(TraitError):
    """A text is not what is written of a box that fits."""

    def __init__(self):
        TraitError.__init__(self, "BadText")


class BadPage(TraitError):
    """A text is no page; told is the first row that is wrong."""

    def __init__(self, row):
        TraitError.__init__(self, "BadPage")
        self.row = row


class BadParts(TraitError):
    """There is no up at all, or a rule's parts aren't parts."""

    def __init__(self):
        TraitError.__init__(self, "BadParts")


class BadRow(TraitError):
    """A row has no word or too many."""

    def __init__(self):
        TraitError.__init__(self, "BadRow")


class BadMost(TraitError):
    """So many words can't be asked for."""

    def __init__(self, most):
        TraitError.__init__(self, "BadMost")
        self.most = most


class NoRest(TraitError):
    """A box can't be led to rest."""

    def __init__(self):
        TraitError.__init__(self, "NoRest")


class Missing(LookupError):
    """What is named isn't there."""

    def __init__(self, called, about=""):
        LookupError.__init__(self, f"{called}({about})")
        self.called = called


class NoKind(Missing):
    """There is no such kind."""

    def __init__(self, name):
        Missing.__init__(self, "NoKind", name)
        self.name = name


class NoMust(Missing):
    """The kind has no must."""

    def __init__(self, name):
        Missing.__init__(self, "NoMust", name)
        self.name = name


class NoWord(Missing):
    """There is no such word."""

    def __init__(self, name):
        Missing.__init__(self, "NoWord", name)
        self.name = name


class NoRule(Missing):
    """There is no such rule."""

    def __init__(self, name):
        Missing.__init__(self, "NoRule", name)
        self.name = name


class NoRoom(Missing):
    """The room isn't there."""

    def __init__(self, room):
        Missing.__init__(self, "NoRoom", room)
        self.room = room


class NoBox(Missing):
    """There is no box of this number."""

    def __init__(self, number):
        Missing.__init__(self, "NoBox")
        self.number = number


class NoMark(Missing):
    """There is no mark of this number."""

    def __init__(self, number):
        Missing.__init__(self, "NoMark")
        self.number = number


class NoMeaning(Missing):
    """There is no such meaning."""

    def __init__(self):
        Missing.__init__(self, "NoMeaning")


class NothingLeft(Missing):
    """There is nothing to take back or to do again."""

    def __init__(self):
        Missing.__init__(self, "NothingLeft")
