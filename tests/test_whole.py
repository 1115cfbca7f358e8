"""The interface, and what is promised over the whole program: points 1, 13 and 19."""

import copy
import importlib
import inspect
import itertools
import random
import unittest

from errandend.errors import ErrandError, TooMany
from errandend.runs import entries, run
from errandend.sayings import looked, sends
from errandend.sizes import composed, graphs
from errandend.tellings import closure, falls, holds, judged, judged_from, reached
from errandend.texts import read_line, shown_line
from errandend.trees import size
from helper import closed_ways, drawn_program, drawn_tree, lines

INTERFACE = {
    "trees": {"size": ["tree"], "shown_tree": ["tree"], "read_tree": ["text"]},
    "sayings": {"looked": ["program"], "sends": ["program"]},
    "texts": {"shown_line": ["errand"], "read_line": ["text"]},
    "runs": {"run": ["program", "name", "trees", "most"], "entries": ["program", "name", "trees", "most"]},
    "sizes": {"graphs": ["program"], "composed": ["one", "other"]},
    "tellings": {
        "closure": ["program"], "judged": ["program"], "reached": ["program", "name"],
        "judged_from": ["program", "name"], "holds": ["program", "telling"], "falls": ["program", "way"],
    },
}

# Programs of every sort: without sends, told to end, left open, with too many pairs in the closure.
PROGRAMS = [
    lines("app a b: {a [<a app(>a b)] b}"),
    lines("still a: a", "quiet a b: [a b]"),
    lines("turn a b: {a turn(b >a) a}", "top a: [turn(a a) top(a)]"),
    lines("ack m n: {m {n ack(<m ack(m <n)) ack(<m [- -])} [n -]}"),
    lines("even a: {a odd(>a) [- -]}", "odd a: {a even(>a) -}"),
    lines("loop a: loop(a)", "grow a: grow([a -])"),
    lines("f a b c: {a [f(b c <a) f(- b <a)] -}"),
]


def outcome(asked, *handed):
    """What is told, or the class of the refusal."""
    try:
        return asked(*handed)
    except ErrandError as refusal:
        return type(refusal)


def all_answers(program):
    """Every answer about a program, of each function of the interface."""
    told = [outcome(asked, program) for asked in (looked, sends, graphs, closure, judged)]
    for word, params, _ in program + [("none", (), None)]:
        told += [outcome(asked, program, word) for asked in (reached, judged_from)]
        for trees in ([None] * len(params), [((None, None), (None, None))] * len(params), [None]):
            for most in (0, 3, 20):
                told += [outcome(asked, program, word, trees, most) for asked in (run, entries)]
    for way in itertools.chain([()], itertools.product(range(-1, 4), repeat=1), itertools.product(range(3), repeat=2)):
        told += [outcome(falls, program, way), outcome(holds, program, ("open", way))]
    told += [outcome(holds, program, ("ends", list(graphs(program)[:many]))) for many in range(3)]
    told += [outcome(composed, one, other) for one in graphs(program) for other in graphs(program)]
    return told + [shown_line(errand) for errand in program]


def spoil(value):
    """Change every list in what was told."""
    if isinstance(value, (list, tuple)):
        for part in value:
            spoil(part)
    if isinstance(value, list):
        value.append("spoilt")
        value.reverse()


class TestInterface(unittest.TestCase):
    def test_names_and_arguments(self):
        for stem, functions in INTERFACE.items():
            module = importlib.import_module("errandend." + stem)
            for word, arguments in functions.items():
                with self.subTest(f"{stem}.{word}"):
                    self.assertEqual(list(inspect.signature(getattr(module, word)).parameters), arguments)


class TestEachAnswerHangsOnWhatIsHandedInAlone(unittest.TestCase):
    def test_nothing_that_is_handed_in_is_changed(self):
        for program in PROGRAMS:
            handed = copy.deepcopy(program)
            all_answers(handed)
            self.assertEqual(handed, program)

    def test_what_is_told_is_the_askers_own(self):
        for program in PROGRAMS:
            wanted = copy.deepcopy(all_answers(program))
            spoil(all_answers(program))
            self.assertEqual(all_answers(program), wanted)

    def test_no_answer_shares_a_list_with_another_one(self):
        for program in PROGRAMS:
            for asked in (sends, graphs, closure):
                if asked != closure or outcome(closure, program) != TooMany:
                    self.assertIsNot(asked(program), asked(program))
            self.assertIsNot(entries(program, program[0][0], [None] * len(program[0][1]), 3),
                             entries(program, program[0][0], [None] * len(program[0][1]), 3))

    def test_answers_about_one_program_turn_none_about_another(self):
        wanted = [copy.deepcopy(all_answers(program)) for program in PROGRAMS]
        for place in reversed(range(len(PROGRAMS))):
            self.assertEqual(all_answers(PROGRAMS[place]), wanted[place])

    def test_a_program_of_the_same_names_and_other_bodies(self):
        one = lines("p a: {a p(<a) -}")
        other = lines("p a: p(a)")
        for _ in range(2):
            self.assertEqual(judged(one)[0], "ends")
            self.assertEqual(judged(other), ("open", (0,)))

    def test_a_list_that_is_changed_between_two_questions(self):
        program = lines("p a: {a p(<a) -}")
        self.assertEqual(judged(program)[0], "ends")
        self.assertEqual(run(program, "p", [(None, None)], 9), ("done", None, 2))
        program[0] = read_line("p a: p(a)")
        self.assertEqual(judged(program), ("open", (0,)))
        self.assertEqual(run(program, "p", [(None, None)], 9), ("going", 9))
        program.append(read_line("q a: -"))
        self.assertEqual(reached(program, "q"), ["q"])


class TestDrawnPrograms(unittest.TestCase):
    def test_sizes_keep_to_the_graphs_in_every_run(self):
        draw = random.Random(11)
        checked = 0
        for _ in range(700):
            program = drawn_program(draw)
            told = graphs(program)
            for word, params, _ in program:
                begun = entries(program, word, [drawn_tree(draw, draw.randrange(20)) for _ in params], 40)
                for parent, number, _, given in begun[1:]:
                    for row, tree in zip(told[number][2], begun[parent][3], strict=True):
                        for value, sent in zip(row, given, strict=True):
                            checked += 1
                            # With 2 it is less, with 1 not more, with 0 nothing is told.
                            self.assertTrue(value == 0 or size(sent) <= size(tree) - (value == 2))
        self.assertGreater(checked, 5000)

    def test_every_closed_way_falls_of_a_program_that_is_told_to_end(self):
        draw = random.Random(12)
        checked = 0
        for _ in range(1500):
            program = drawn_program(draw)
            telling = outcome(judged, program)
            if telling != TooMany and telling[0] == "ends":
                for way in itertools.islice(closed_ways(program, 6), 80):
                    checked += 1
                    self.assertIs(falls(program, way), True)
        self.assertGreater(checked, 2000)

    def test_the_way_of_a_program_that_is_left_open_does_not_fall(self):
        draw = random.Random(13)
        checked = 0
        for _ in range(700):
            program = drawn_program(draw)
            telling = outcome(judged, program)
            if telling != TooMany:
                self.assertIs(holds(program, telling), True)
                if telling[0] == "open":
                    checked += 1
                    self.assertIs(falls(program, telling[1]), False)
        self.assertGreater(checked, 200)

    def test_nothing_comes_round_again_of_what_is_told_to_end(self):
        draw = random.Random(14)
        seen = {"ends": 0, "open": 0}
        for _ in range(2500):
            program = drawn_program(draw)
            for word, params, _ in program:
                telling = outcome(judged_from, program, word)
                if telling == TooMany:
                    continue
                begun = entries(program, word, [drawn_tree(draw, draw.randrange(10)) for _ in params], 40)
                if telling[0] == "ends":
                    seen["ends"] += len(begun) > 1
                    self.assertIs(self.comes_round(begun), False)
                else:
                    seen["open"] += self.comes_round(begun)
        # The check sees entries that come round again, where nothing rules them out.
        self.assertGreater(min(seen.values()), 100)

    def comes_round(self, begun):
        for entry in begun:
            parent = entry[0]
            while parent is not None:
                if begun[parent][2:] == entry[2:]:
                    return True
                parent = begun[parent][0]
        return False


if __name__ == "__main__":
    unittest.main()
