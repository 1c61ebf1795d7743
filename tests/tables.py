"""Tables, boxes and helpers that several tests use."""

import itertools
import random

from traitmere.boxes import built
from traitmere.errors import TraitError
from traitmere.grammar import Grammar
from traitmere.kinds import Kinds
from traitmere.texts import read


def table(*rows, musts=()):
    """A table of rows (name, ups, rooms), and of the texts of musts, all written as texts."""
    kinds = Kinds()
    for name, ups, rooms in rows:
        kinds.put(name, ups.split(), rooms=[tuple(pair.split(":")) for pair in rooms.split()])
    for text in musts:
        box = read(kinds, text)
        kinds.must(box.kind(), box)
    return kinds


def small_table():
    """Words, pairs, triples and rings, the kinds of the document's texts among them."""
    return table(("word", "any", ""), ("noun", "word", ""), ("verb", "word", ""),
                 ("pair", "any", "left:any right:word"), ("triple", "pair", "mid:any left:word"),
                 ("ring", "any", "on:any"))


def rich_table():
    """Kinds of which most have lows and share rooms, so that most boxes are joined, to much at once."""
    return table(("web", "any", "a:any b:any c:any"), ("red", "web", "b:web"), ("blue", "web", "a:web"),
                 ("both", "red blue", "b:red"), ("leaf", "any", ""), musts=("blue[c:leaf]", "#1=both[b:#1]"))


def refused(case, error, call, *given, **named):
    """Calls, and tells the error that is raised; it is of just this class."""
    with case.assertRaises(error) as caught:
        call(*given, **named)
    case.assertIs(type(caught.exception), error)
    return caught.exception


def random_box(kinds, chance, size, root=None, often=0.8):
    """A box of at most so many nodes, often with shared rooms and rings."""
    names = [chance.choice(kinds.names()) for count in range(size)]
    names[0] = root or names[0]
    nodes = []
    for name in names:
        pairs = []
        for room, let in kinds.rooms(name):
            able = [at for at in range(size) if kinds.is_below(names[at], let)]
            if able and chance.random() < often:
                pairs.append((room, chance.choice(able)))
        chance.shuffle(pairs)
        nodes.append((name, pairs))
    return built(kinds, nodes)


def some_boxes(seed, many):
    """So many boxes of small_table."""
    kinds = small_table()
    chance = random.Random(seed)
    return [random_box(kinds, chance, chance.randint(1, 8)) for count in range(many)]


def random_table(chance, many=8):
    """A table of some kinds, rooms and musts; what is refused is left out."""
    kinds = Kinds()
    for name in "abcdefghijklmnopq"[:many]:
        ups = [chance.choice(kinds.names()) for count in range(chance.randint(1, 2))]
        rooms = [(chance.choice("rst"), chance.choice(kinds.names())) for count in range(chance.randint(0, 2))]
        without_refusal(kinds.put, name, ups, rooms=rooms)
    for name in chance.sample(kinds.names(), len(kinds) // 2):
        for count in range(4):
            box = random_box(kinds, chance, chance.randint(2, 4), name)
            if len(box) > 1 or box.nodes()[0][1]:
                without_refusal(kinds.must, name, box)
    return kinds


def without_refusal(call, *given, **named):
    try:
        call(*given, **named)
    except TraitError:
        pass


def all_boxes(kinds, most):
    """Each box of at most so many nodes that fits, once."""
    boxes = {}
    for size in range(1, most + 1):
        rows = [row for name in kinds.names() for row in all_rows(kinds, name, size)]
        for nodes in itertools.product(rows, repeat=size):
            if all(kinds.is_below(nodes[there][0], kinds.let_in(kind, room)) for kind, pairs in nodes
                   for room, there in pairs):
                box = built(kinds, nodes)
                boxes[str(box)] = box
    return list(boxes.values())


def all_rows(kinds, name, size):
    """Each row that a node of this kind may have among so many nodes."""
    choices = [[()] + [((room, there),) for there in range(size)] for room, let in kinds.rooms(name)]
    return [(name, sum(pairs, ())) for pairs in itertools.product(*choices)]


def speech_table():
    """Kinds of a small language: numbers that have to agree, and `made`, of which rules are."""
    return table(("num", "any", ""), ("one", "num", ""), ("many", "num", ""), ("phrase", "any", "num:num"),
                 ("name", "phrase", ""), ("deed", "phrase", ""), ("thing", "phrase", ""), ("pick", "phrase", ""),
                 ("told", "any", "does:deed who:name"), ("asked", "told", ""), ("mark", "any", ""),
                 ("made", "any", "a:any b:any c:any whole:any"),
                 musts=("told[does:deed[num:#1=num] who:name[num:#1]]",))


SPEECH_WORDS = (("the", "pick"), ("a", "pick[num:one]"), ("dog", "thing[num:one]"), ("dogs", "thing[num:many]"),
                ("runs", "deed[num:one]"), ("run", "deed[num:many]"), ("run", "thing[num:one]"))
SPEECH_RULES = (("name", "made[a:pick[num:#1=num] b:thing[num:#1] whole:name[num:#1]]", ("a", "b")),
                ("tell", "made[a:#1=name b:#2=deed whole:told[does:#2 who:#1]]", ("a", "b")),
                ("bare", "made[a:mark b:#1=told c:mark whole:#1]", ("a", "b", "c")))


def speech_grammar():
    """A grammar of speech_table with a word of two meanings and rules of two and of three parts."""
    grammar = Grammar(speech_table())
    for name, text in SPEECH_WORDS:
        grammar.word(name, read(grammar.kinds(), text))
    for name, text, parts in SPEECH_RULES:
        grammar.rule(name, read(grammar.kinds(), text), parts)
    return grammar


def all_of(grammar):
    """All that is told of a grammar, so that it can be compared."""
    return ([(name, [str(box) for box in grammar.meanings(name)]) for name in grammar.words()],
            [(name, str(grammar.rule_of(name)[0]), grammar.rule_of(name)[1]) for name in grammar.rules()],
            grammar.steps(), grammar.kept(), len(grammar))


def random_grammar(chance, words=3, rules=3, many=6):
    """A grammar of a random table and `make`, of which its rules are; what is refused is left out."""
    kinds = random_table(chance, many)
    kinds.put("make", rooms=[(room, "any") for room in ("a", "b", "c", "whole")])
    grammar = Grammar(kinds)
    for count in range(words * 2):
        box = random_box(kinds, chance, chance.randint(1, 4))
        without_refusal(grammar.word, "uvwxyz"[chance.randrange(words)], box)
    for name in "klmnop"[:rules]:
        box = random_box(kinds, chance, chance.randint(3, 6), "make", often=0.95)
        without_refusal(grammar.rule, name, box, chance.sample("abc", chance.randint(2, 3)))
    return grammar
