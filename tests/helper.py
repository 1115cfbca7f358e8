"""What several test files need: sayings and trees by short names, programs from their lines, and drawn programs."""

from errandend.sayings import sends
from errandend.texts import read_line

BUD = ("bud",)


def name(word):
    return ("name", word)


def pair(one, other):
    return ("pair", one, other)


def left(saying):
    return ("left", saying)


def right(saying):
    return ("right", saying)


def fork(one, other, last):
    return ("fork", one, other, last)


def send(word, *sayings):
    return ("send", word, sayings)


A = name("a")
B = name("b")


def lines(*texts):
    """A program from its errands' lines."""
    return [read_line(text) for text in texts]


def left_tree(pairs):
    tree = None
    for _ in range(pairs):
        tree = (tree, None)
    return tree


def right_tree(pairs):
    tree = None
    for _ in range(pairs):
        tree = (None, tree)
    return tree


def bushy_tree(pairs):
    if pairs == 0:
        return None
    ahead = (pairs - 1) // 2
    return (bushy_tree(ahead), bushy_tree(pairs - 1 - ahead))


def inner_sayings(saying):
    if saying[0] in ("name", "bud"):
        return ()
    return saying[2] if saying[0] == "send" else saying[1:]


def count_sends(saying):
    return (saying[0] == "send") + sum(count_sends(inner) for inner in inner_sayings(saying))


def closed_ways(program, longest):
    """Every closed way of at most so many sends."""
    ends = sends(program)
    ways = [(number,) for number in range(len(ends))]
    while ways and len(ways[0]) <= longest:
        for way in ways:
            if ends[way[0]][0] == ends[way[-1]][1]:
                yield way
        ways = [way + (number,) for way in ways for number, end in enumerate(ends) if ends[way[-1]][1] == end[0]]


def drawn_tree(draw, pairs):
    if pairs == 0:
        return None
    ahead = draw.randrange(pairs)
    return (drawn_tree(draw, ahead), drawn_tree(draw, pairs - 1 - ahead))


def drawn_path(draw, params):
    path = name(draw.choice(params))
    for _ in range(draw.choice((0, 0, 1, 1, 2))):
        path = draw.choice((left, right))(path)
    return path


def drawn_saying(draw, heads, params, deep):
    """A saying at most so deep, with paths far more often than chance alone would have them."""
    kind = draw.choice(("path", "bud", "side", "pair", "pair", "fork", "fork", "send", "send", "send"))
    if kind == "path" or deep < 4:
        return drawn_path(draw, params)
    if kind == "bud":
        return BUD
    if kind == "side":
        return draw.choice((left, right))(drawn_saying(draw, heads, params, deep - 1))
    if kind == "pair":
        return pair(*[drawn_saying(draw, heads, params, deep - 1) for _ in range(2)])
    if kind == "fork":
        asked = drawn_path(draw, params) if draw.randrange(5) else drawn_saying(draw, heads, params, deep - 1)
        return fork(asked, *[drawn_saying(draw, heads, params, deep - 1) for _ in range(2)])
    word, sent = draw.choice(heads)
    return send(word, *[drawn_sent(draw, heads, params, deep - 1) for _ in sent])


def drawn_sent(draw, heads, params, deep):
    if draw.randrange(6) == 0:
        return drawn_saying(draw, heads, params, deep)
    return drawn_path(draw, params) if draw.randrange(6) else BUD


def drawn_program(draw):
    """A program of one to three errands that keeps to every bound."""
    heads = []
    for word in ("one", "two", "three")[:draw.randrange(1, 4)]:
        heads.append((word, ("a", "b", "c")[:draw.randrange(1, 4)]))
    program = []
    for word, params in heads:
        body = drawn_saying(draw, heads, params, draw.randrange(5, 8))
        # Most errands first ask for a pair, as errands do that get on with one.
        if draw.randrange(4):
            body = fork(name(params[0]), body, drawn_path(draw, params))
        program.append((word, params, body))
    if sum(count_sends(errand[2]) for errand in program) > 12:
        return drawn_program(draw)
    return program
