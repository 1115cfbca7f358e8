"""Points 1 and 15 to 18: the closure, tellings, what is reached, whether tellings hold and closed ways fall."""

import copy
import itertools
import random
import unittest

from errandend.errors import NoSuch, NoWay, TooMany
from errandend.sayings import sends
from errandend.sizes import composed, graphs
from errandend.tellings import closure, falls, holds, judged, judged_from, reached
from helper import closed_ways, drawn_program, lines

APP = lines("app a b: {a [<a app(>a b)] b}")
LOOP = lines("loop a: loop(a)")
SWAP = lines("swap a b: {a swap(b a) -}")
TURN = lines("turn a b: {a turn(b >a) a}")
ACK = lines("ack m n: {m {n ack(<m ack(m <n)) ack(<m [- -])} [n -]}")
STILL = lines("still a: a", "quiet a b: [a b]")

# Graphs of programs whose one errand has two parameters.
SWAPPED = ((0, 1), (1, 0))
SAME = ((1, 0), (0, 1))

# Programs whose closure would have this many pairs.
JUST_FORTY_ENDS = lines("f a b c: {b f(- c a) {a f(b c -) -}}")
JUST_FORTY_OPEN = lines("f a b c: {a [f(b c -) f(b <c b)] -}")
FORTY_ONE_ENDS = lines("f a b c: {a [f(b c <a) f(- b <a)] -}")
FORTY_ONE_OPEN = lines("f a b c: {a [f(c <c b) f(c - c)] -}")


def in_swap(rows):
    return ("swap", "swap", rows)


def in_turn(rows):
    return ("turn", "turn", rows)


def plain_closure(program, numbers=None):
    """The closure without a bound, of all sends or of those with these numbers."""
    sent = [(number, graph) for number, graph in enumerate(graphs(program)) if numbers is None or number in numbers]
    found = []
    ways = [((number,), graph) for number, graph in sent]
    for way, graph in ways:
        if graph not in [pair[0] for pair in found]:
            found.append((graph, way))
            if len(found) > 100:
                break
            ways.extend([(way + (number,), composed(graph, other)) for number, other in sent if graph[1] == other[0]])
    return found


def plain_idle(graph):
    if graph[0] != graph[1] or composed(graph, graph) != graph:
        return False
    return 2 not in [graph[2][place][place] for place in range(len(graph[2]))]


def plain_falls(program, way):
    """Whether, gone round and round, some parameter comes back smaller: by walks from parameter to parameter."""
    told = graphs(program)
    behind = {}
    smaller = []
    for place, number in enumerate(way):
        for one, row in enumerate(told[number][2]):
            for other, value in enumerate(row):
                here, there = (place, one), ((place + 1) % len(way), other)
                if value:
                    behind.setdefault(here, []).append(there)
                if value == 2:
                    smaller.append((here, there))
    return any(here in walked_from(there, behind) for here, there in smaller)


def walked_from(first, behind):
    found = [first]
    for node in found:
        found.extend([other for other in dict.fromkeys(behind.get(node, [])) if other not in found])
    return found


class TestClosure(unittest.TestCase):
    def test_no_send(self):
        self.assertEqual(closure(STILL), [])

    def test_one_send_that_composed_with_itself_is_the_same(self):
        self.assertEqual(closure(APP), [(("app", "app", ((2, 0), (0, 1))), (0,))])
        self.assertEqual(closure(LOOP), [(("loop", "loop", ((1,),)), (0,))])

    def test_one_send_with_ways_of_several(self):
        self.assertEqual(closure(SWAP), [(in_swap(SWAPPED), (0,)), (in_swap(SAME), (0, 0))])
        self.assertEqual(closure(TURN), [
            (in_turn(((0, 2), (1, 0))), (0,)), (in_turn(((2, 0), (0, 2))), (0, 0)),
            (in_turn(((0, 2), (2, 0))), (0, 0, 0))])

    def test_no_graph_twice_and_the_first_way_stays(self):
        program = lines("one a: {a [one(<a) [one(>a) one(a)]] one(a)}")
        self.assertEqual(closure(program), [(("one", "one", ((2,),)), (0,)), (("one", "one", ((1,),)), (2,))])
        self.assertEqual(closure(ACK), [
            (("ack", "ack", ((2, 0), (0, 0))), (0,)), (("ack", "ack", ((1, 0), (0, 2))), (1,))])

    def test_all_sends_first_then_behind_each_pair_each_send(self):
        program = lines("one a: {a [two(a) two(<a)] -}", "two a: [one(a) two([a a])]")
        self.assertEqual(closure(program), [
            (("one", "two", ((1,),)), (0,)), (("one", "two", ((2,),)), (1,)),
            (("two", "one", ((1,),)), (2,)), (("two", "two", ((0,),)), (3,)),
            (("one", "one", ((1,),)), (0, 2)), (("one", "two", ((0,),)), (0, 3)),
            (("one", "one", ((2,),)), (1, 2)),
            (("two", "two", ((1,),)), (2, 0)), (("two", "two", ((2,),)), (2, 1)),
            (("two", "one", ((0,),)), (3, 2)),
            (("one", "one", ((0,),)), (0, 3, 2)),
            (("two", "one", ((2,),)), (2, 1, 2))])

    def test_ways_of_errands_that_never_come_back(self):
        program = lines("one a: two(a)", "two a: three(a)", "three a: -")
        self.assertEqual(closure(program), [
            (("one", "two", ((1,),)), (0,)), (("two", "three", ((1,),)), (1,)), (("one", "three", ((1,),)), (0, 1))])

    def test_forty_pairs_are_told(self):
        for program in (JUST_FORTY_ENDS, JUST_FORTY_OPEN):
            told = closure(program)
            self.assertEqual(len(told), 40)
            self.assertEqual(told, plain_closure(program))

    def test_a_forty_first_pair_is_refused(self):
        for program in (FORTY_ONE_ENDS, FORTY_ONE_OPEN):
            self.assertEqual(len(plain_closure(program)), 41)
            with self.assertRaises(TooMany):
                closure(program)

    def test_a_forty_first_pair_of_a_send_alone_is_refused(self):
        words = ["".join(letters) for letters in itertools.product("abcdefg", repeat=2)][:41]
        program = [(word, ("x",), ("send", "last", (("name", "x"),))) for word in words] + lines("last x: x")
        self.assertEqual(len(closure(program[1:])), 40)
        with self.assertRaises(TooMany):
            closure(program)

    def test_kinds(self):
        told = closure(TURN)
        self.assertIs(type(told), list)
        for pair in told:
            self.assertEqual((type(pair), len(pair), type(pair[0]), type(pair[1])), (tuple, 2, tuple, tuple))
            self.assertEqual({type(number) for number in pair[1]}, {int})

    def test_drawn_programs(self):
        draw = random.Random(7)
        refused = 0
        for _ in range(1500):
            program = drawn_program(draw)
            wanted = plain_closure(program)
            if len(wanted) > 40:
                refused += 1
                with self.assertRaises(TooMany):
                    closure(program)
            else:
                self.assertEqual(closure(program), wanted)
        self.assertGreater(refused, 10)


class TestJudged(unittest.TestCase):
    def test_ends(self):
        self.assertEqual(judged(APP), ("ends", [("app", "app", ((2, 0), (0, 1)))]))
        self.assertEqual(judged(STILL), ("ends", []))
        self.assertEqual(judged(ACK), ("ends", [("ack", "ack", ((2, 0), (0, 0))), ("ack", "ack", ((1, 0), (0, 2)))]))
        self.assertEqual(judged(TURN), ("ends", [pair[0] for pair in closure(TURN)]))

    def test_open(self):
        self.assertEqual(judged(LOOP), ("open", (0,)))
        self.assertEqual(judged(lines("one a: one([a a])")), ("open", (0,)))
        self.assertEqual(judged(lines("one a: {a one(<a) one(<a)}")), ("open", (1,)))

    def test_a_graph_that_is_turned_by_being_composed_with_itself_is_no_idle_round(self):
        self.assertEqual(judged(SWAP), ("open", (0, 0)))
        self.assertEqual(judged(lines("one a b c: one(b c a)")), ("open", (0, 0, 0)))

    def test_a_two_on_the_diagonal_makes_no_idle_round(self):
        self.assertEqual(judged(lines("one a b: {b one([a a] <b) -}"))[0], "ends")
        self.assertEqual(judged(lines("one a b: {b one([a a] b) -}")), ("open", (0,)))
        # A 2 beside the diagonal does not count: the graph ((0, 2), (0, 0)) is turned, that of two sends is not.
        self.assertEqual(judged(lines("one a b: {a one([a a] <a) -}")), ("open", (0, 0)))
        self.assertEqual(judged(lines("one a b: {a one(a <a) -}")), ("open", (0,)))

    def test_a_graph_between_two_errands_is_no_idle_round(self):
        self.assertEqual(judged(lines("one a: two(a)", "two a: a"))[0], "ends")
        self.assertEqual(judged(lines("one a: two(a)", "two a: one(a)")), ("open", (0, 1)))
        self.assertEqual(judged(lines("one a: {a two(<a) -}", "two a: one(a)"))[0], "ends")

    def test_the_first_idle_round_of_the_closure(self):
        program = lines("one a: {a [one(<a) [one([a a]) one(a)]] -}")
        self.assertEqual(judged(program), ("open", (1,)))
        program = lines("one a b: {a [one(b a) one([a b] <a)] two(a)}", "two a: two(a)")
        self.assertEqual(judged(program), ("open", (3,)))

    def test_forty_pairs(self):
        self.assertEqual(judged(JUST_FORTY_ENDS), ("ends", [pair[0] for pair in plain_closure(JUST_FORTY_ENDS)]))
        self.assertEqual(judged(JUST_FORTY_OPEN)[0], "open")

    def test_too_many_even_where_an_idle_round_is_there(self):
        for program in (FORTY_ONE_ENDS, FORTY_ONE_OPEN):
            with self.assertRaises(TooMany):
                judged(program)
        self.assertTrue(any(plain_idle(pair[0]) for pair in plain_closure(FORTY_ONE_OPEN)[:40]))
        with self.assertRaises(TooMany):
            judged(LOOP + FORTY_ONE_ENDS)

    def test_kinds(self):
        for program, kind in ((APP, list), (STILL, list), (LOOP, tuple)):
            told = judged(program)
            self.assertEqual((type(told), len(told), type(told[1])), (tuple, 2, kind))


class TestReached(unittest.TestCase):
    def test_it_itself_too(self):
        self.assertEqual(reached(STILL, "still"), ["still"])
        self.assertEqual(reached(STILL, "quiet"), ["quiet"])
        self.assertEqual(reached(APP, "app"), ["app"])

    def test_in_the_programs_order(self):
        program = lines("d a: a", "c a: d(a)", "b a: c(a)", "a a: [b(a) e(a)]", "e a: a", "f a: a(a)")
        self.assertEqual(reached(program, "a"), ["d", "c", "b", "a", "e"])
        self.assertEqual(reached(program, "b"), ["d", "c", "b"])
        self.assertEqual(reached(program, "f"), ["d", "c", "b", "a", "e", "f"])
        self.assertEqual(reached(program, "d"), ["d"])

    def test_round_and_round(self):
        program = lines("one a: two(a)", "two a: three(a)", "three a: one(a)", "four a: [four(a) two(a)]")
        for word in ("one", "two", "three"):
            self.assertEqual(reached(program, word), ["one", "two", "three"])
        self.assertEqual(reached(program, "four"), ["one", "two", "three", "four"])

    def test_a_send_counts_wherever_it_stands(self):
        for text in ("{- two(a) -}", "{two(a) - -}", "<[- two(a)]", "one(two(a))", "{a - <>[- two(a)]}"):
            self.assertEqual(reached(lines("one a: " + text, "two a: a"), "one"), ["one", "two"])

    def test_no_such(self):
        for word in ("none", "a", "b", "ap", "appp"):
            with self.assertRaises(NoSuch):
                reached(APP, word)

    def test_kinds(self):
        self.assertIs(type(reached(APP, "app")), list)


class TestJudgedFrom(unittest.TestCase):
    PROGRAM = lines("top a: [app(a -) loop(a)]", "app a b: {a [<a app(>a b)] b}", "loop a: loop(a)", "last a: app(a a)")

    def test_only_the_sends_of_errands_that_are_come_to(self):
        app = ("app", "app", ((2, 0), (0, 1)))
        self.assertEqual(judged_from(self.PROGRAM, "app"), ("ends", [app]))
        self.assertEqual(judged_from(self.PROGRAM, "last"), ("ends", [
            app, ("last", "app", ((1, 1),)), ("last", "app", ((2, 1),))]))

    def test_by_the_numbers_of_the_whole_program(self):
        self.assertEqual(judged_from(self.PROGRAM, "loop"), ("open", (3,)))
        self.assertEqual(judged_from(self.PROGRAM, "top"), ("open", (3,)))
        program = APP + lines("one a: two(a)", "two a: one(a)")
        self.assertEqual(judged_from(program, "two"), ("open", (1, 2)))
        self.assertEqual(judged_from(program, "app"), judged(APP))

    def test_the_first_errand_may_open_what_a_later_one_does_not(self):
        self.assertEqual(judged(LOOP + APP), ("open", (0,)))
        self.assertEqual(judged_from(LOOP + APP, "app"), judged(APP))

    def test_an_errand_without_a_send(self):
        self.assertEqual(judged_from(STILL + LOOP, "quiet"), ("ends", []))

    def test_no_such_stands_ahead_of_too_many(self):
        for program in (APP, FORTY_ONE_ENDS):
            for word in ("none", "a"):
                with self.assertRaises(NoSuch):
                    judged_from(program, word)

    def test_too_many_only_among_what_is_come_to(self):
        program = APP + FORTY_ONE_ENDS + lines("to a: f(a a a)")
        for word in ("f", "to"):
            with self.assertRaises(TooMany):
                judged_from(program, word)
        self.assertEqual(judged_from(program, "app"), judged(APP))
        self.assertEqual(judged_from(APP + JUST_FORTY_ENDS, "f"), judged(JUST_FORTY_ENDS))

    def test_drawn_programs(self):
        draw = random.Random(8)
        for _ in range(1000):
            program = drawn_program(draw)
            for errand in program:
                names = reached(program, errand[0])
                numbers = [number for number, end in enumerate(sends(program)) if end[0] in names]
                pairs = plain_closure(program, numbers)
                if len(pairs) > 40:
                    with self.assertRaises(TooMany):
                        judged_from(program, errand[0])
                    continue
                ways = [way for graph, way in pairs if plain_idle(graph)]
                wanted = ("open", ways[0]) if ways else ("ends", [pair[0] for pair in pairs])
                self.assertEqual(judged_from(program, errand[0]), wanted)


class TestHolds(unittest.TestCase):
    def assert_holds(self, wanted, program, telling):
        with self.subTest(telling):
            self.assertIs(holds(program, telling), wanted)

    def test_what_was_told(self):
        for program in (APP, LOOP, SWAP, TURN, ACK, STILL, JUST_FORTY_ENDS, JUST_FORTY_OPEN):
            self.assert_holds(True, program, judged(program))

    def test_ends_in_any_order_and_with_a_graph_twice(self):
        told = judged(TURN)[1]
        for chosen in itertools.permutations(told):
            self.assert_holds(True, TURN, ("ends", list(chosen)))
        self.assert_holds(True, TURN, ("ends", told + told))

    def test_ends_with_a_sends_graph_missing(self):
        self.assert_holds(False, APP, ("ends", []))
        told = judged(ACK)[1]
        self.assert_holds(False, ACK, ("ends", told[:1]))
        self.assert_holds(False, ACK, ("ends", told[1:]))
        self.assert_holds(False, APP + STILL, ("ends", []))
        self.assert_holds(False, LOOP + APP, judged_from(LOOP + APP, "app"))
        # Each of these, composed with the send, is among them; the send's own graph is not.
        self.assert_holds(False, lines("one a: {a two(<a) -}", "two a: a"), ("ends", [("one", "two", ((1,),))]))

    def test_ends_with_a_composed_graph_missing(self):
        told = judged(TURN)[1]
        for place in range(3):
            self.assert_holds(False, TURN, ("ends", told[:place] + told[place + 1:]))
        program = lines("one a: {a two(<a) -}", "two a: one(a)")
        whole = judged(program)[1]
        for place in range(len(whole)):
            self.assert_holds(False, program, ("ends", whole[:place] + whole[place + 1:]))

    def test_ends_with_a_graph_of_which_a_composed_one_is_missing(self):
        program = lines("one a: two(a)", "two a: {a two(<a) -}")
        told = judged(program)[1]
        self.assert_holds(True, program, ("ends", told))
        self.assert_holds(True, program, ("ends", told + [("two", "one", ((2,),)), ("one", "one", ((2,),))]))
        self.assert_holds(False, program, ("ends", told + [("two", "one", ((0,),))]))
        self.assert_holds(False, program, ("ends", [("two", "one", ((0,),))] + told))

    def test_ends_with_further_graphs(self):
        program = lines("one a: two(a)", "two a: a")
        told = judged(program)[1]
        self.assert_holds(True, program, ("ends", told + [("one", "two", ((0,),)), ("one", "two", ((2,),))]))
        self.assert_holds(True, program, ("ends", told + [("two", "two", ((2,),))]))
        self.assert_holds(True, STILL, ("ends", [("quiet", "quiet", SWAPPED)]))
        self.assert_holds(True, STILL, ("ends", [("still", "quiet", ((0, 0),)), ("quiet", "still", ((0,), (0,)))]))

    def test_ends_with_an_idle_round(self):
        self.assert_holds(False, LOOP, ("ends", [("loop", "loop", ((1,),))]))
        self.assert_holds(False, SWAP, ("ends", [in_swap(SWAPPED), in_swap(SAME)]))
        self.assert_holds(False, TURN, ("ends", judged(TURN)[1] + [in_turn(((0, 0), (0, 0)))]))
        self.assert_holds(False, TURN, ("ends", [in_turn(((0, 0), (0, 0)))] + judged(TURN)[1]))
        self.assert_holds(False, STILL, ("ends", [("still", "still", ((1,),))]))
        self.assert_holds(False, STILL, ("ends", [("still", "still", ((2,),)), ("still", "still", ((0,),))]))
        self.assert_holds(True, STILL, ("ends", [("still", "still", ((2,),))]))

    def test_open_by_any_way_whose_graph_is_an_idle_round(self):
        for many in range(1, 9):
            self.assert_holds(True, LOOP, ("open", (0,) * many))
            self.assert_holds(many % 2 == 0, SWAP, ("open", (0,) * many))
        program = lines("one a: two(a)", "two a: one(a)")
        for way in ((0, 1), (1, 0), (0, 1, 0, 1)):
            self.assert_holds(True, program, ("open", way))

    def test_open_by_what_is_no_way(self):
        self.assert_holds(False, LOOP, ("open", ()))
        for number in (1, 2, 100, -1, -2):
            self.assert_holds(False, LOOP, ("open", (number,)))
            self.assert_holds(False, LOOP, ("open", (0, number)))
            self.assert_holds(False, LOOP, ("open", (number, 0)))
        program = lines("one a: two(a)", "two a: one(a)")
        for way in ((0, 0), (1, 1), (0, 1, 1, 0), (0, 0, 1), (-1, -2), (-2, 1)):
            self.assert_holds(False, program, ("open", way))
        for way in ((), (0,), (-1,)):
            self.assert_holds(False, STILL, ("open", way))

    def test_open_by_a_way_that_is_not_closed(self):
        program = lines("one a: two(a)", "two a: one(a)")
        for way in ((0,), (1,), (0, 1, 0), (1, 0, 1)):
            self.assert_holds(False, program, ("open", way))

    def test_open_by_a_way_whose_graph_is_turned_or_falls(self):
        self.assert_holds(False, SWAP, ("open", (0,)))
        self.assert_holds(False, SWAP, ("open", (0, 0, 0)))
        for program in (APP, TURN, ACK):
            for many in range(1, 7):
                self.assert_holds(False, program, ("open", (0,) * many))

    def test_drawn_programs(self):
        draw = random.Random(9)
        seen = {True: 0, False: 0}
        for _ in range(1000):
            program = drawn_program(draw)
            pairs = plain_closure(program)
            idle = [pair for pair in pairs if plain_idle(pair[0])]
            self.assertIs(holds(program, ("ends", [pair[0] for pair in pairs])), not idle and len(pairs) < 101)
            for graph, way in pairs:
                told = plain_idle(graph)
                seen[told] += 1
                self.assertIs(holds(program, ("open", way)), told)
                rest = [pair[0] for pair in pairs if pair[0] != graph]
                self.assertIs(holds(program, ("ends", rest)), False)
        self.assertGreater(min(seen.values()), 200)


class TestFalls(unittest.TestCase):
    def assert_no_way(self, program, way):
        with self.subTest(way):
            with self.assertRaises(NoWay):
                falls(program, way)

    def test_at_the_first_time_round(self):
        self.assertIs(falls(APP, (0,)), True)
        self.assertIs(falls(APP, (0,) * 5), True)
        for way in ((0,), (1,), (2,), (0, 1), (1, 2), (1, 1, 0)):
            self.assertIs(falls(ACK, way), True)

    def test_as_often_as_the_errand_has_parameters(self):
        self.assertIs(falls(TURN, (0,)), True)
        self.assertIs(falls(lines("one a b c: {b one(b c <a) -}"), (0,)), False)
        self.assertIs(falls(lines("one a b c: {a one(b c <a) -}"), (0,)), True)
        for text in ("{a one(b c d <a) -}", "{b one(<b c d a) -}", "{c one(b >c d a) -}", "{d one(b c <>d a) -}"):
            self.assertIs(falls(lines("one a b c d: " + text), (0,)), True)

    def test_a_way_that_does_not_fall(self):
        self.assertIs(falls(LOOP, (0,)), False)
        self.assertIs(falls(SWAP, (0,)), False)
        self.assertIs(falls(SWAP, (0, 0)), False)
        self.assertIs(falls(lines("one a b: {a one([a a] <a) -}"), (0,)), False)
        self.assertIs(falls(lines("one a b: {a one(a <a) -}"), (0,)), False)
        self.assertIs(falls(lines("one a b c d: one(b c d a)"), (0,)), False)

    def test_ways_through_several_errands(self):
        program = lines("one a b: {a two(b <a) one(a b)}", "two a b: [one(b a) two(a b)]")
        self.assertIs(falls(program, (0, 2)), True)
        self.assertIs(falls(program, (2, 0)), True)
        self.assertIs(falls(program, (1, 0, 3, 2, 1)), True)
        for way in ((1,), (3,), (1, 1), (3, 3, 3)):
            self.assertIs(falls(program, way), False)

    def test_the_parameters_that_count_are_those_of_the_errand_where_the_way_begins(self):
        program = lines("one a b c d: {a two(b c d <a) -}", "two a b c d: one(a b c d)", "three a: a")
        self.assertIs(falls(program, (0, 1)), True)
        self.assertIs(falls(program, (1, 0)), True)

    def test_no_way(self):
        for program in (APP, LOOP, STILL, ACK):
            self.assert_no_way(program, ())
            for number in (3, 4, 99, -1, -3, -4):
                self.assert_no_way(program, (number,))
                self.assert_no_way(program, (0, number))
                self.assert_no_way(program, (number, 0))
        self.assert_no_way(LOOP, (1,))
        self.assert_no_way(STILL, (0,))

    def test_a_way_that_does_not_fit(self):
        program = lines("one a: [two(a) one(a)]", "two a: one(a)")
        for way in ((0, 0), (0, 1), (2, 2), (1, 2), (0, 2, 2), (2, 2, 0), (0, 0, 2), (1, 2, 1), (0, 1, 2)):
            self.assert_no_way(program, way)

    def test_a_way_that_is_not_closed(self):
        program = lines("one a: [two(a) one(a)]", "two a: one(a)")
        for way in ((0,), (2,), (1, 0), (0, 2, 0), (2, 1), (2, 1, 1)):
            self.assert_no_way(program, way)
        for way in ((1,), (0, 2), (2, 0), (2, 1, 0), (0, 2, 1), (1, 0, 2)):
            self.assertIs(falls(program, way), False)

    def test_drawn_programs_as_walks_from_parameter_to_parameter_tell(self):
        draw = random.Random(10)
        seen = {True: 0, False: 0}
        for _ in range(1000):
            program = drawn_program(draw)
            for way in itertools.islice(closed_ways(program, 4), 60):
                told = falls(program, way)
                seen[told] += 1
                self.assertIs(told, plain_falls(program, way))
        self.assertGreater(min(seen.values()), 1000)


class TestSomewhatBeyondABound(unittest.TestCase):
    def test_more_errands_parameters_and_sends_than_a_program_has(self):
        wide = [("wide", tuple("abcde"), ("send", "wide", tuple(("name", word) for word in "bcdea")))]
        self.assertEqual(judged(wide), ("open", (0,) * 5))
        self.assertIs(falls(wide, (0,)), False)
        chain = [("e" * many, ("a",), ("send", "e" * (many % 12 + 1), (("name", "a"),))) for many in range(1, 6)]
        chain += [("e" * many, ("a",), ("name", "a")) for many in range(6, 13)]
        self.assertEqual(judged(chain)[0], "ends")
        self.assertEqual(reached(chain, "eee"), ["eee", "eeee", "eeeee", "eeeeee"])
        many = ("bud",)
        for _ in range(15):
            many = ("pair", ("send", "one", (("name", "a"),)), many)
        self.assertEqual(judged([("one", ("a",), many)]), ("open", (0,)))
        self.assertIs(falls([("one", ("a",), many)], (14, 0)), False)


class TestWhatIsHandedInAndTold(unittest.TestCase):
    def test_what_is_handed_in_stays_as_it_was(self):
        for whole in (TURN, SWAP):
            program = copy.deepcopy(whole)
            telling = judged(program)
            before = copy.deepcopy(telling)
            closure(program)
            judged_from(program, program[0][0])
            reached(program, program[0][0])
            holds(program, telling)
            falls(program, (0,))
            self.assertEqual((program, telling), (whole, before))

    def test_lists_that_were_told_may_be_changed(self):
        wanted = (closure(TURN), judged(TURN), judged_from(TURN, "turn"), reached(TURN, "turn"))
        wanted = copy.deepcopy(wanted)
        for _ in range(2):
            closure(TURN).clear()
            judged(TURN)[1].append(None)
            judged_from(TURN, "turn")[1].reverse()
            reached(TURN, "turn").append("none")
            self.assertEqual((closure(TURN), judged(TURN), judged_from(TURN, "turn"), reached(TURN, "turn")), wanted)

    def test_a_telling_that_is_changed_later_is_asked_about_anew(self):
        telling = judged(TURN)
        self.assertIs(holds(TURN, telling), True)
        telling[1].pop()
        self.assertIs(holds(TURN, telling), False)


if __name__ == "__main__":
    unittest.main()
