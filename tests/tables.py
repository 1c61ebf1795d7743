"""Tables and helpers that several tests use."""

import random

from traitmere.boxes import built
from traitmere.kinds import Kinds


def small_table():
    """Words, pairs, triples and rings, the kinds of the document's texts among them."""
    kinds = Kinds()
    kinds.put("word")
    kinds.put("noun", ("word",))
    kinds.put("verb", ("word",))
    kinds.put("pair", rooms=[("left", "any"), ("right", "word")])
    kinds.put("triple", ("pair",), rooms=[("mid", "any"), ("left", "word")])
    kinds.put("ring", rooms=[("on", "any")])
    return kinds


def refused(case, error, call, *given, **named):
    """Calls, and tells the error that is raised; it is of just this class."""
    with case.assertRaises(error) as caught:
        call(*given, **named)
    case.assertIs(type(caught.exception), error)
    return caught.exception


def some_boxes(seed, many):
    """So many boxes of small_table, with shared rooms and rings."""
    kinds = small_table()
    chance = random.Random(seed)
    boxes = []
    while len(boxes) < many:
        size = chance.randint(1, 8)
        names = [chance.choice(kinds.names()) for count in range(size)]
        nodes = []
        for name in names:
            pairs = []
            for room, let in kinds.rooms(name):
                able = [at for at in range(size) if kinds.is_below(names[at], let)]
                if able and chance.random() < 0.8:
                    pairs.append((room, chance.choice(able)))
            chance.shuffle(pairs)
            nodes.append((name, pairs))
        boxes.append(built(kinds, nodes))
    return boxes
