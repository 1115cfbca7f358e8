"""Points 1, 11, 12 and 14: what is known at a place, the graphs of sends, and how they are composed."""

import copy
import itertools
import random
import unittest

from errandend.errors import Apart
from errandend.sizes import composed, graphs
from helper import A, drawn_program, inner_sayings, lines, pair, send

APP = lines("app a b: {a [<a app(>a b)] b}")


def row_of(text, body="two({})"):
    """The numbers for a, b and c that the saying sent has, in the body told with {} for the saying."""
    program = lines("one a b c: " + body.replace("two({})", f"two({text})"), "two x: -")
    (graph,) = graphs(program)
    return tuple(row[0] for row in graph[2])


def made_round(path):
    """The path and all of which it can be made by putting lefts and rights round it; none where it is no path."""
    found = [path]
    while found[-1][0] in ("left", "right"):
        found.append(found[-1][1])
    return found if found[-1][0] == "name" else []


def plain_sends(saying, known):
    """Each send in a saying with all the paths that are known at its place."""
    found = [(saying, known)] if saying[0] == "send" else []
    for place, inner in enumerate(inner_sayings(saying)):
        within = saying[0] == "fork" and place == 1
        found.extend(plain_sends(inner, known + made_round(saying[1]) if within else known))
    return found


def plain_number(param, saying, known):
    made = made_round(saying)
    if saying == ("bud",):
        return 2 if ("name", param) in known else 1
    if not made or made[-1] != ("name", param):
        return 0
    return 2 if any(path in known for path in made[1:]) else 1


def plain_graphs(program):
    """The graphs as points 11 and 12 tell them, path by path."""
    found = []
    for word, params, body in program:
        for saying, known in plain_sends(body, []):
            rows = [tuple([plain_number(param, sent, known) for sent in saying[2]]) for param in params]
            found.append((word, saying[1], tuple(rows)))
    return found


class TestNumbers(unittest.TestCase):
    def test_a_path_where_nothing_is_known(self):
        for text in ("a", "<a", ">a", "<<a", "><a", "<><><a"):
            self.assertEqual(row_of(text), (1, 0, 0), text)
        self.assertEqual(row_of("b"), (0, 1, 0))
        self.assertEqual(row_of(">c"), (0, 0, 1))

    def test_a_path_where_the_parameter_is_known(self):
        for text in ("<a", ">a", "<<a", "><a", "<><><a"):
            self.assertEqual(row_of(text, "{a two({}) -}"), (2, 0, 0), text)

    def test_the_path_itself_does_not_count(self):
        self.assertEqual(row_of("a", "{a two({}) -}"), (1, 0, 0))
        self.assertEqual(row_of("a", "{<a two({}) -}"), (1, 0, 0))

    def test_a_path_where_another_path_of_which_it_is_made_is_known(self):
        self.assertEqual(row_of("<>a", "{>a two({}) -}"), (2, 0, 0))
        self.assertEqual(row_of(">>>a", "{>>a two({}) -}"), (2, 0, 0))

    def test_a_path_is_known_by_what_is_made_of_it(self):
        for asked in ("<a", ">a", "<<a", "><>a"):
            body = "{" + asked + " two({}) -}"
            for text in ("<a", ">a", "<<a", ">>>a"):
                self.assertEqual(row_of(text, body), (2, 0, 0), body)
            self.assertEqual(row_of("-", body), (2, 1, 1), body)
            self.assertEqual(row_of("<b", body), (0, 1, 0), body)

    def test_another_parameters_path_tells_nothing_of_this_one(self):
        self.assertEqual(row_of("<b", "{a two({}) -}"), (0, 1, 0))
        self.assertEqual(row_of("<b", "{<b two({}) -}"), (0, 2, 0))

    def test_a_bud(self):
        self.assertEqual(row_of("-"), (1, 1, 1))
        self.assertEqual(row_of("-", "{a two({}) -}"), (2, 1, 1))
        self.assertEqual(row_of("-", "{b two({}) -}"), (1, 2, 1))
        self.assertEqual(row_of("-", "{<>c two({}) -}"), (1, 1, 2))
        self.assertEqual(row_of("-", "{a {b {c two({}) -} -} -}"), (2, 2, 2))

    def test_other_sayings(self):
        for text in ("[a b]", "[- -]", "[<a >a]", "{a a a}", "{a <a -}", "<[a b]", ">[- a]", "<-", ">-", "<{a a a}",
                     "<>-"):
            for body in ("two({})", "{a two({}) -}", "{a {b {c two({}) -} -} -}"):
                self.assertEqual(row_of(text, body), (0, 0, 0), text)

    def test_a_send_that_is_sent(self):
        program = lines("one a b: {a two(one(<a b) <b) -}", "two x y: -")
        self.assertEqual(graphs(program), [
            ("one", "two", ((0, 0), (0, 1))), ("one", "one", ((2, 0), (0, 1)))])
        program = lines("one a: {a one(<one(<a)) -}")
        self.assertEqual(graphs(program), [("one", "one", ((0,),)), ("one", "one", ((2,),))])

    def test_only_the_second_saying_of_a_fork_knows(self):
        for body in ("{two({}) - -}", "{two({}) a a}", "{- two({}) -}", "{a - two({})}", "[a two({})]",
                     "[{a a a} two({})]", "{{a a a} two({}) -}", "{[a a] two({}) -}", "{<[a a] two({}) -}",
                     "{<- two({}) -}", "{- a {b - two({})}}", "{{a a -} two({}) -}", "{<{a a -} two({}) -}"):
            self.assertEqual(row_of("<a", body), (1, 0, 0), body)
            self.assertEqual(row_of("-", body), (1, 1, 1), body)

    def test_what_is_known_is_known_however_deep_within(self):
        for body in ("{a [- two({})] -}", "{a {two({}) - -} -}", "{a {b two({}) -} -}", "{a {b - two({})} -}",
                     "{a <>two({}) -}", "{a {b - [- <two({})]} -}", "{b {a two({}) -} -}", "{b - {a two({}) -}}",
                     "{a {a two({}) -} -}", "{a {a - two({})} -}", "{{a two({}) -} - -}"):
            self.assertEqual(row_of("<a", body)[0], 2, body)
            self.assertEqual(row_of("-", body)[0], 2, body)

    def test_what_is_known_in_one_place_is_not_known_beside_it(self):
        program = lines("one a: [one(<a) [{a one(<a) one(<a)} one(<a)]]")
        self.assertEqual([graph[2] for graph in graphs(program)], [((1,),), ((2,),), ((1,),), ((1,),)])

    def test_what_one_errand_knows_another_one_does_not(self):
        program = lines("one a: {a two(<a) -}", "two a: one(<a)")
        self.assertEqual(graphs(program), [("one", "two", ((2,),)), ("two", "one", ((1,),))])


class TestGraphs(unittest.TestCase):
    def test_the_documents_own_example(self):
        self.assertEqual(graphs(APP), [("app", "app", ((2, 0), (0, 1)))])

    def test_no_send(self):
        self.assertEqual(graphs(lines("one a: a", "two a b: [a b]")), [])

    def test_rows_for_the_senders_parameters_and_numbers_for_those_of_the_errand_sent(self):
        program = lines("one a b c: {b two(<b a) -}", "two a b: one(b a -)")
        self.assertEqual(graphs(program), [
            ("one", "two", ((0, 1), (2, 0), (0, 0))), ("two", "one", ((0, 1, 1), (1, 0, 1)))])

    def test_by_number(self):
        program = lines("one a: {a [two(one(<a) -) one(-)] one(a)}", "two a b: one(b)")
        self.assertEqual(graphs(program), [
            ("one", "two", ((0, 2),)), ("one", "one", ((2,),)), ("one", "one", ((2,),)), ("one", "one", ((1,),)),
            ("two", "one", ((0,), (1,)))])

    def test_four_parameters(self):
        program = lines("one a b c d: {c one(d >c [a b] -) -}")
        self.assertEqual(graphs(program), [
            ("one", "one", ((0, 0, 0, 1), (0, 0, 0, 1), (0, 2, 0, 2), (1, 0, 0, 1)))])

    def test_parameters_called_alike_in_two_errands(self):
        program = lines("one a b: two(b a)", "two b a: -")
        self.assertEqual(graphs(program), [("one", "two", ((0, 1), (1, 0)))])

    def test_the_same_saying_in_several_places(self):
        again = send("one", ("left", A))
        program = [("one", ("a",), pair(again, ("fork", A, again, again)))]
        self.assertEqual([graph[2] for graph in graphs(program)], [((1,),), ((2,),), ((1,),)])

    def test_kinds(self):
        told = graphs(lines("one a b: {a [one(<a b) two(-)] -}", "two a: -"))
        self.assertIs(type(told), list)
        for graph in told:
            self.assertEqual((type(graph), len(graph), type(graph[2])), (tuple, 3, tuple))
            for row in graph[2]:
                self.assertIs(type(row), tuple)
                self.assertEqual({type(number) for number in row}, {int})

    def test_somewhat_deeper_than_twelve(self):
        deep = "<" * 11 + "a"
        body = ("fork", A, send("one", lines("one a: " + deep)[0][2]), A)
        for _ in range(20):
            body = ("right", body)
        self.assertEqual(graphs([("one", ("a",), body)]), [("one", "one", ((2,),))])

    def test_drawn_programs_have_the_graphs_that_the_points_tell_path_by_path(self):
        draw = random.Random(4)
        seen = {0: 0, 1: 0, 2: 0}
        for _ in range(2000):
            program = drawn_program(draw)
            told = graphs(program)
            self.assertEqual(told, plain_graphs(program))
            for number in itertools.chain(*[row for graph in told for row in graph[2]]):
                seen[number] += 1
        self.assertGreater(min(seen.values()), 500)


class TestComposed(unittest.TestCase):
    def test_one_parameter(self):
        numbers = {(0, 0): 0, (0, 1): 0, (0, 2): 0, (1, 0): 0, (2, 0): 0, (1, 1): 1, (1, 2): 2, (2, 1): 2, (2, 2): 2}
        for (one, other), wanted in numbers.items():
            told = composed(("p", "q", ((one,),)), ("q", "r", ((other,),)))
            self.assertEqual(told, ("p", "r", ((wanted,),)))

    def test_the_largest_that_some_parameter_between_gives(self):
        for numbers, wanted in (((1, 1, 0, 2), 1), ((1, 1, 2, 1), 2), ((0, 2, 1, 1), 1), ((2, 0, 0, 2), 0),
                                ((0, 2, 0, 2), 0), ((1, 2, 0, 0), 2), ((2, 2, 1, 1), 2)):
            told = composed(("p", "q", ((numbers[0], numbers[2]),)), ("q", "p", ((numbers[1],), (numbers[3],))))
            self.assertEqual(told, ("p", "p", ((wanted,),)), numbers)

    def test_from_the_first_ones_parameters_to_the_second_ones(self):
        one = ("p", "q", ((2, 0), (0, 1), (1, 1)))
        other = ("q", "r", ((0, 1, 0, 2), (1, 0, 0, 0)))
        self.assertEqual(composed(one, other), ("p", "r", ((0, 2, 0, 2), (1, 0, 0, 0), (1, 1, 0, 2))))

    def test_the_order_counts(self):
        one = ("p", "p", ((0, 2), (0, 0)))
        other = ("p", "p", ((1, 0), (0, 0)))
        self.assertEqual(composed(one, other), ("p", "p", ((0, 0), (0, 0))))
        self.assertEqual(composed(other, one), ("p", "p", ((0, 2), (0, 0))))

    def test_four_parameters_between(self):
        for place in range(4):
            row = tuple(1 if place == other else 0 for other in range(4))
            rows = tuple((2,) if place == other else (0,) for other in range(4))
            self.assertEqual(composed(("p", "q", (row,)), ("q", "p", rows)), ("p", "p", ((2,),)))

    def test_composing_hangs_on_no_grouping(self):
        draw = random.Random(6)
        for _ in range(300):
            many = [draw.randrange(1, 5) for _ in range(4)]
            drawn = []
            for place in range(3):
                rows = [tuple(draw.randrange(3) for _ in range(many[place + 1])) for _ in range(many[place])]
                drawn.append(("abcd"[place], "abcd"[place + 1], tuple(rows)))
            self.assertEqual(composed(composed(drawn[0], drawn[1]), drawn[2]),
                             composed(drawn[0], composed(drawn[1], drawn[2])))

    def test_apart(self):
        one = ("p", "q", ((1,),))
        for other in (("p", "q", ((1,),)), ("r", "q", ((1,),)), ("p", "p", ((1,),)), ("r", "p", ((1,), (1,)))):
            with self.subTest(other):
                with self.assertRaises(Apart):
                    composed(one, other)
        self.assertEqual(composed(("q", "p", ((1,),)), one), ("q", "q", ((1,),)))

    def test_kinds(self):
        told = composed(graphs(APP)[0], graphs(APP)[0])
        self.assertEqual((type(told), type(told[2]), type(told[2][0]), type(told[2][0][0])), (tuple, tuple, tuple, int))


class TestWhatIsHandedInAndTold(unittest.TestCase):
    def test_what_is_handed_in_stays_as_it_was(self):
        program = copy.deepcopy(APP)
        graphs(program)
        self.assertEqual(program, APP)

    def test_a_list_that_was_told_may_be_changed(self):
        wanted = list(graphs(APP))
        told = graphs(APP)
        told.append(told[0])
        told[0] = None
        self.assertEqual(graphs(APP), wanted)
        empty = graphs(lines("one a: a"))
        empty.append(None)
        self.assertEqual(graphs(lines("one a: a")), [])

    def test_a_changed_program_has_other_graphs(self):
        program = list(APP)
        self.assertEqual(len(graphs(program)), 1)
        program[0] = lines("app a b: {a app(b <a) app(a -)}")[0]
        self.assertEqual(graphs(program), [("app", "app", ((0, 2), (1, 0))), ("app", "app", ((1, 1), (0, 1)))])


if __name__ == "__main__":
    unittest.main()
