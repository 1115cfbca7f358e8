"""Runs: what an errand comes to under a told bound, and the entries that are begun on the way."""

from errandend.sayings import in_order, parts, refuse_miscounted, refuse_missing
from errandend.trees import MOST_PAIRS, size


def run(program, name, trees, most):
    return ended_run(program, name, trees, most).ending


def entries(program, name, trees, most):
    return ended_run(program, name, trees, most).begun


def ended_run(program, name, trees, most):
    params = dict([(errand[0], errand[1]) for errand in program])
    refuse_missing(name, params)
    refuse_miscounted(name, trees, len(params[name]))
    ended = Run(params, numbered_bodies(program), most)
    ended.begin(None, None, name, tuple(trees))
    ended.go_on()
    return ended


def numbered_bodies(program):
    bodies = {}
    number = 0
    for errand in program:
        order = in_order(errand[2])
        bodies[errand[0]] = numbered(order, number)
        number += count_sends(order)
    return bodies


def count_sends(order):
    return len([saying for saying in order if saying[0] == "send"])


def numbered(order, number):
    # The same saying may stand in several places, so a send's number can't be looked up by the saying: it is put
    # behind each send. From the last saying to the first one, the sayings in a saying are done ahead of it, and the
    # leftmost of them last.
    done = []
    later = number + count_sends(order)
    for saying in reversed(order):
        inner = tuple([done.pop() for part in parts(saying)])
        if saying[0] == "send":
            later -= 1
            done.append(("send", saying[1], inner, later))
        elif saying[0] == "name":
            done.append(saying)
        else:
            done.append((saying[0],) + inner)
    return done.pop()


class Run:
    # What is still to be done waits in a list, in the place of calls within calls: a hundred entries within one
    # another would go deeper than Python need let calls go. The last one put there is the first one done.

    def __init__(self, params, bodies, most):
        self.params = params
        self.bodies = bodies
        self.most = most
        self.begun = []
        # Each is a tuple: whether what the saying needs is worked out already, the saying, its entry's place.
        self.pending = []
        # The trees that are worked out and wait for the saying that needs them.
        self.waiting = []
        self.ending = None

    def begin(self, parent, number, name, trees):
        if len(self.begun) >= self.most:
            self.ending = ("going", self.most)
        else:
            self.pending.append((False, self.bodies[name], len(self.begun)))
            self.begun.append((parent, number, name, trees))

    def go_on(self):
        while self.pending and self.ending is None:
            task = self.pending.pop()
            if task[0]:
                self.finish(task[1], task[2])
            else:
                self.prepare(task[1], task[2])
        if self.ending is None:
            self.ending = ("done", self.waiting.pop(), len(self.begun))

    def prepare(self, saying, place):
        self.pending.append((True, saying, place))
        for part in reversed(needed_parts(saying)):
            self.pending.append((False, part, place))

    def finish(self, saying, place):
        kind = saying[0]
        if kind == "send":
            self.begin(place, saying[3], saying[1], self.taken(len(saying[2])))
        elif kind == "fork":
            self.choose(saying, place)
        elif kind == "pair":
            self.join_pair()
        elif kind == "name":
            self.waiting.append(self.parameter(saying[1], place))
        elif kind == "bud":
            self.waiting.append(None)
        else:
            self.waiting.append(side(kind, self.waiting.pop()))

    def taken(self, many):
        first = len(self.waiting) - many
        trees = tuple(self.waiting[first:])
        self.waiting = self.waiting[:first]
        return trees

    def choose(self, fork, place):
        chosen = fork[3] if self.waiting.pop() is None else fork[2]
        self.pending.append((False, chosen, place))

    def join_pair(self):
        pair = self.taken(2)
        if size(pair) > MOST_PAIRS:
            self.ending = ("grown", len(self.begun))
        else:
            self.waiting.append(pair)

    def parameter(self, name, place):
        entry = self.begun[place]
        return entry[3][self.params[entry[2]].index(name)]


def needed_parts(saying):
    # Of a fork only the first saying is worked out in any case.
    return saying[1:2] if saying[0] == "fork" else parts(saying)


def side(kind, tree):
    if tree is None:
        return None
    return tree[0] if kind == "left" else tree[1]
