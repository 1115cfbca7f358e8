"""What sends tell of sizes: the graph of each send, and how graphs are composed."""

from errandend.errors import Apart
from errandend.sayings import parts


def graphs(program):
    found = []
    for errand in program:
        for placed in placed_sends(errand[2]):
            send = placed[0]
            rows = [told_row(param, send[2], placed[1]) for param in errand[1]]
            found.append((errand[0], send[1], tuple(rows)))
    return found


def placed_sends(body):
    # Each send with the parameters that are known at its place. Parameters are enough: where a path is known, so is
    # each path of which it can be made, and the parameter itself is the first of these.
    found = []
    pending = [(body, ())]
    while pending:
        placed = pending.pop()
        if placed[0][0] == "send":
            found.append(placed)
        # The last one put there is the first one taken.
        for inner in reversed(placed_parts(placed[0], placed[1])):
            pending.append(inner)
    return found


def placed_parts(saying, known):
    if saying[0] != "fork":
        return [(part, known) for part in parts(saying)]
    param = path_parameter(saying[1])
    inner = known if param is None else known + (param,)
    return [(saying[1], known), (saying[2], inner), (saying[3], known)]


def path_parameter(saying):
    # None where the saying is no path.
    rest = saying
    while rest[0] in ("left", "right"):
        rest = rest[1]
    return rest[1] if rest[0] == "name" else None


def told_row(param, sayings, known):
    return tuple([told_number(param, saying, known) for saying in sayings])


def told_number(param, saying, known):
    if saying[0] != "bud" and path_parameter(saying) != param:
        return 0
    # A parameter sent as it is has no other path of which it can be made.
    if saying[0] == "name" or param not in known:
        return 1
    return 2


def composed(one, other):
    if not fit(one, other):
        raise Apart("the second one does not begin where the first one ends")
    rows = [composed_row(row, other[2]) for row in one[2]]
    return (one[0], other[1], tuple(rows))


def fit(one, other):
    return one[1] == other[0]


def composed_row(row, rows):
    return tuple([largest_between(row, rows, column) for column in range(len(rows[0]))])


def largest_between(row, rows, column):
    return max([joined_number(number, behind[column]) for number, behind in zip(row, rows)])


def joined_number(one, other):
    return 0 if 0 in (one, other) else max(one, other)
