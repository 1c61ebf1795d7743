"""A bench on which boxes grow together, and on which one can go back."""

from traitmere.errors import NoBox, NoKind, NoMark, NoRest, NoRoom
from traitmere.web import Web


class Bench:
    """Brought boxes in one web.

    A web that stands here is at rest and is never changed: each deed tries a twin, which takes its place where the
    deed can be. So marks have but to hold on to the web that stood then.
    """

    def __init__(self, kinds):
        self.table = kinds.twin()
        self.web = Web(self.table)
        self.roots = []
        self.marks = []

    def bring(self, box):
        """Bring a box, led to its rest; tells its number."""
        trial = self.web.twin()
        root = trial.bring(box.kind())
        trial.lay(root, box)
        if not self.takes_place(trial):
            raise NoRest()
        self.roots.append(root)
        return len(self.roots) - 1

    def fuse(self, one, other, *, path=(), other_path=()):
        """What stands at two places is one from now on; tells whether this can be."""
        first = self.place_of(one, path)
        second = self.place_of(other, other_path)
        trial = self.web.twin()
        trial.fuse(first, second)
        return self.takes_place(trial)

    def narrow(self, one, kind, *, path=()):
        """What stands at a place is of this kind, too; tells whether this can be."""
        thing = self.place_of(one, path)
        if kind not in self.table.names():
            raise NoKind(kind)
        trial = self.web.twin()
        trial.narrow(thing, kind)
        return self.takes_place(trial)

    def give(self, one, room, other, *, path=()):
        """A room at a place leads to a brought box; tells whether this can be."""
        thing = self.place_of(one, path)
        root = self.place_of(other, ())
        if self.table.let_in(self.web.kind_of(thing), room) is None:
            raise NoRoom(room)
        trial = self.web.twin()
        trial.lead(thing, room, root)
        return self.takes_place(trial)

    def told(self, one, *, path=()):
        """The box of all that is behind a place."""
        return self.web.told(self.place_of(one, path))

    def mark(self):
        """Set a mark; tells its number."""
        self.marks.append((self.web, len(self.roots)))
        return len(self.marks) - 1

    def back(self, mark):
        """Let go all that was brought and done since a mark, and it and the later ones."""
        if mark < 0 or mark >= len(self.marks):
            raise NoMark(mark)
        self.web, many = self.marks[mark]
        self.roots = self.roots[:many]
        self.marks = self.marks[:mark]

    def __len__(self):
        return len(self.roots)

    def place_of(self, number, path):
        """The thing that stands at a place."""
        if number < 0 or number >= len(self.roots):
            raise NoBox(number)
        thing = self.roots[number]
        for room in path:
            thing = self.web.inside(thing, room)
            if thing is None:
                raise NoRoom(room)
        return thing

    def takes_place(self, trial):
        """Whether a tried web comes to rest; then it stands here."""
        if not trial.settle():
            return False
        self.web = trial
        return True
