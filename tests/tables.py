"""Tables, boxes and helpers that several tests use."""

import itertools
import random

from traitmere.boxes import built
from traitmere.errors import TraitError
from traitmere.kinds import Kinds
from traitmere.texts import read


def table(*rows, musts=()):
    """A table of rows (name, ups, rooms), and of the texts of musts, all written as texts."""
    kinds = Kinds()
    for name, ups, rooms in rows:
        kinds.put(name, ups.split(), rooms=[tuple(pair.split(":")) for pair in rooms.split()])
    for text in musts:
        box = read(kinds, text)
        kinds.must(box.kind(), box)
    return kinds


def small_table():
    """Words, pairs, triples and rings, the kinds of the document's texts among them."""
    return table(("word", "any", ""), ("noun", "word", ""), ("verb", "word", ""),
                 ("pair", "any", "left:any right:word"), ("triple", "pair", "mid:any left:word"),
                 ("ring", "any", "on:any"))


def rich_table():
    """Kinds of which most have lows and share rooms, so that most boxes are joined, to much at once."""
    return table(("web", "any", "a:any b:any c:any"), ("red", "web", "b:web"), ("blue", "web", "a:web"),
                 ("both", "red blue", "b:red"), ("leaf", "any", ""), musts=("blue[c:leaf]", "#1=both[b:#1]"))


def refused(case, error, call, *given, **named):
    """Calls, and tells the error that is raised; it is of just this class."""
    with case.assertRaises(error) as caught:
        call(*given, **named)
    case.assertIs(type(caught.exception), error)
    return caught.exception


def random_box(kinds, chance, size, root=None, often=0.8):
    """A box of at most so many nodes, often with shared rooms and rings."""
    names = [chance.choice(kinds.names()) for count in range(size)]
    names[0] = root or names[0]
    nodes = []
    for name in names:
        pairs = []
        for room, let in kinds.rooms(name):
            able = [at for at in range(size) if kinds.is_below(names[at], let)]
            if able and chance.random() < often:
                pairs.append((room, chance.choice(able)))
        chance.shuffle(pairs)
        nodes.append((name, pairs))
    return built(kinds, nodes)


def some_boxes(seed, many):
    """So many boxes of small_table."""
    kinds = small_table()
    chance = random.Random(seed)
    return [random_box(kinds, chance, chance.randint(1, 8)) for count in range(many)]


def random_table(chance, many=8):
    """A table of some kinds, rooms and musts; what is refused is left out."""
    kinds = Kinds()
    for name in "abcdefghijklmnopq"[:many]:
        ups = [chance.choice(kinds.names()) for count in range(chance.randint(1, 2))]
        rooms = [(chance.choice("rst"), chance.choice(kinds.names())) for count in range(chance.randint(0, 2))]
        without_refusal(kinds.put, name, ups, rooms=rooms)
    for name in chance.sample(kinds.names(), len(kinds) // 2):
        for count in range(4):
            box = random_box(kinds, chance, chance.randint(2, 4), name)
            if len(box) > 1 or box.nodes()[0][1]:
                without_refusal(kinds.must, name, box)
    return kinds


def without_refusal(call, *given, **named):
    try:
        call(*given, **named)
    except TraitError:
        pass


def all_boxes(kinds, most):
    """Each box of at most so many nodes that fits, once."""
    boxes = {}
    for size in range(1, most + 1):
        rows = [row for name in kinds.names() for row in all_rows(kinds, name, size)]
        for nodes in itertools.product(rows, repeat=size):
            if all(kinds.is_below(nodes[there][0], kinds.let_in(kind, room)) for kind, pairs in nodes
                   for room, there in pairs):
                box = built(kinds, nodes)
                boxes[str(box)] = box
    return list(boxes.values())


def all_rows(kinds, name, size):
    """Each row that a node of this kind may have among so many nodes."""
    choices = [[()] + [((room, there),) for there in range(size)] for room, let in kinds.rooms(name)]
    return [(name, sum(pairs, ())) for pairs in itertools.product(*choices)]
