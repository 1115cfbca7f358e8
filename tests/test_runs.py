"""Points 1, 4, 9 and 10: how runs end, with how many entries, and the entries in their order."""

import copy
import random
import unittest

from errandend.errors import NoSuch, WrongCount
from errandend.runs import entries, run
from errandend.trees import size
from helper import A, bushy_tree, count_sends, drawn_program, drawn_tree, inner_sayings, left, left_tree, lines
from helper import pair, right_tree, send

ONE = (None, None)
TWO = (None, ONE)

APP = lines("app a b: {a [<a app(>a b)] b}")
LOOP = lines("loop a: loop(a)")
GROW = lines("grow a: grow([a -])")


class Ended(Exception):
    """How a plain run ended ahead of its time."""


def plain_run(program, word, trees, most):
    """How a run ends, and its entries, by calls within calls, as the document's words tell it."""
    begun = []

    def numbers_in(saying, number):
        """The number of the first send of each saying in this one, whose own first send has the number told."""
        number += saying[0] == "send"
        found = []
        for inner in inner_sayings(saying):
            found.append(number)
            number += count_sends(inner)
        return found

    def begin(parent, number, sent, given):
        if len(begun) + 1 > most:
            raise Ended(("going", most))
        begun.append((parent, number, sent, given))
        place = len(begun) - 1
        first = 0
        for errand, params, body in program:
            if errand == sent:
                return come_to(body, first, dict(zip(params, given)), place)
            first += count_sends(body)

    def come_to(saying, number, known, place):
        kind, inner, numbers = saying[0], inner_sayings(saying), numbers_in(saying, number)
        if kind == "name":
            return known[saying[1]]
        if kind == "bud":
            return None
        if kind == "fork":
            chosen = 2 if come_to(inner[0], numbers[0], known, place) is None else 1
            return come_to(inner[chosen], numbers[chosen], known, place)
        trees = tuple([come_to(part, first, known, place) for part, first in zip(inner, numbers)])
        if kind == "send":
            return begin(place, number, saying[1], trees)
        if kind == "pair":
            if size(trees) > 60:
                raise Ended(("grown", len(begun)))
            return trees
        return trees[0] and trees[0][("left", "right").index(kind)]

    try:
        tree = begin(None, None, word, tuple(trees))
    except Ended as ended:
        return (ended.args[0], begun)
    return (("done", tree, len(begun)), begun)


class RunCase(unittest.TestCase):
    def assert_run(self, wanted, program, word, trees, most=100):
        self.assertEqual(run(program, word, trees, most), wanted)

    def assert_body(self, wanted, text, *trees):
        """What the body comes to with these trees for a, b and c, without a further entry."""
        trees = list(trees) + [None] * (3 - len(trees))
        self.assert_run(("done", wanted, 1), lines("top a b c: " + text), "top", trees)


class TestSayings(RunCase):
    def test_names(self):
        self.assert_body(ONE, "a", ONE, TWO)
        self.assert_body(TWO, "b", ONE, TWO)
        self.assert_body(None, "c", ONE, TWO)

    def test_a_bud(self):
        self.assert_body(None, "-", ONE)

    def test_pairs(self):
        self.assert_body((ONE, TWO), "[a b]", ONE, TWO)
        self.assert_body((TWO, ONE), "[b a]", ONE, TWO)
        self.assert_body(((None, ONE), (TWO, None)), "[[- a] [b -]]", ONE, TWO)

    def test_lefts_and_rights(self):
        tree = ((ONE, None), TWO)
        self.assert_body((ONE, None), "<a", tree)
        self.assert_body(TWO, ">a", tree)
        self.assert_body(ONE, "<<a", tree)
        self.assert_body(None, "><a", tree)
        self.assert_body(None, "<>a", tree)
        self.assert_body(ONE, ">>a", tree)
        self.assert_body(TWO, "<[b a]", ONE, TWO)

    def test_left_and_right_of_a_bud_are_a_bud(self):
        self.assert_body(None, "<a", None)
        self.assert_body(None, ">a", None)
        self.assert_body(None, "<-")
        self.assert_body(None, ">-")
        self.assert_body(None, "<><><><><><a", ONE)
        self.assert_body((None, None), "[<- >-]")

    def test_forks(self):
        self.assert_body(ONE, "{a b c}", ONE, ONE, TWO)
        self.assert_body(TWO, "{a b c}", None, ONE, TWO)
        self.assert_body(None, "{a - [b c]}", (None, None))
        self.assert_body((None, None), "{<a - [- -]}", (None, ONE))
        self.assert_body(TWO, "{{a - b} a c}", ONE, ONE, TWO)
        self.assert_body(ONE, "{{a - b} b c}", None, ONE, TWO)

    def test_a_send_takes_its_trees_in_their_order(self):
        program = lines("top a b c: show(c [a b] <a b)", "show d c b a: [[d c] [b a]]")
        self.assert_run(("done", ((None, (TWO, ONE)), (None, ONE)), 2), program, "top", [TWO, ONE, None])

    def test_parameters_are_those_of_the_entry_itself(self):
        program = lines("one a b: [two(b) [a b]]", "two a: [a a]")
        self.assert_run(("done", ((ONE, ONE), (TWO, ONE)), 2), program, "one", [TWO, ONE])

    def test_words_of_sayings_as_names(self):
        program = lines("send name bud: pair([bud name] name)", "pair left right: fork(left)", "fork pair: <pair")
        self.assert_run(("done", ONE, 3), program, "send", [TWO, ONE])


class TestHowRunsEnd(RunCase):
    def test_done(self):
        self.assert_run(("done", (None, (None, ONE)), 3), APP, "app", [TWO, ONE])
        self.assert_run(("done", ONE, 1), APP, "app", [None, ONE])
        self.assert_run(("done", right_tree(60), 31), APP, "app", [right_tree(30), right_tree(30)])

    def test_done_with_just_the_told_most(self):
        self.assert_run(("done", (None, (None, ONE)), 3), APP, "app", [TWO, ONE], 3)
        self.assert_run(("done", None, 1), lines("top a: -"), "top", [None], 1)

    def test_going(self):
        self.assert_run(("going", 2), APP, "app", [TWO, ONE], 2)
        self.assert_run(("going", 1), APP, "app", [TWO, ONE], 1)
        for most in (1, 2, 50, 99, 100):
            self.assert_run(("going", most), LOOP, "loop", [None], most)

    def test_a_most_of_nought(self):
        self.assert_run(("going", 0), LOOP, "loop", [None], 0)
        self.assert_run(("going", 0), APP, "app", [None, None], 0)
        self.assert_run(("going", 0), lines("top a: [a a]"), "top", [right_tree(60)], 0)
        self.assertEqual(entries(APP, "app", [None, None], 0), [])

    def test_a_most_somewhat_beyond_the_bound(self):
        self.assert_run(("going", 101), LOOP, "loop", [None], 101)
        self.assert_run(("going", 400), LOOP, "loop", [None], 400)
        self.assert_run(("done", right_tree(60), 61), APP, "app", [right_tree(60), None], 150)

    def test_entries_far_within_one_another(self):
        program = lines("one a: {a [- <[>[- <[{- - one(>a)} -]] -]] -}")
        self.assert_run(("done", right_tree(60), 61), program, "one", [right_tree(60)])
        self.assert_run(("going", 100), lines("one a: one(one(one(<[a -])))"), "one", [None])
        inmost = send("one", A)
        for _ in range(10):
            inmost = left(inmost)
        self.assert_run(("going", 100), [("one", ("a",), inmost)], "one", [None], 100)
        self.assert_run(("going", 1000), [("one", ("a",), inmost)], "one", [None], 1000)

    def test_grown_at_sixty_one_pairs_and_not_at_sixty(self):
        program = lines("top a b: [a b]")
        for grown in (left_tree, right_tree, bushy_tree):
            for ahead in (0, 1, 30, 59):
                wanted = (grown(ahead), grown(59 - ahead))
                self.assert_run(("done", wanted, 1), program, "top", list(wanted))
                self.assert_run(("grown", 1), program, "top", [grown(ahead), grown(60 - ahead)])
        self.assert_run(("grown", 1), program, "top", [right_tree(60), None])
        self.assert_run(("grown", 1), program, "top", [right_tree(60), right_tree(60)])

    def test_grown_with_those_begun_by_then(self):
        self.assert_run(("grown", 60 + 1), GROW, "grow", [None], 61)
        self.assert_run(("grown", 2), GROW, "grow", [right_tree(59)])
        self.assert_run(("grown", 1), GROW, "grow", [right_tree(60)])
        self.assert_run(("grown", 3), lines("one a: [two(a) two(a)]", "two a: [a -]"), "one", [right_tree(30)])

    def test_a_pair_grows_ahead_of_the_entry_that_it_is_sent_to(self):
        self.assert_run(("grown", 1), GROW, "grow", [right_tree(60)], 1)
        self.assert_run(("going", 1), GROW, "grow", [right_tree(59)], 1)
        self.assert_run(("going", 60), GROW, "grow", [None], 60)

    def test_the_first_way_that_comes_counts(self):
        grown = right_tree(60)
        self.assert_run(("going", 1), lines("top a: [top(a) [a a]]"), "top", [grown], 1)
        self.assert_run(("grown", 1), lines("top a: [[a a] top(a)]"), "top", [grown], 1)
        self.assert_run(("grown", 1), lines("top a b: top([a a] top(a b))"), "top", [grown, None], 1)
        self.assert_run(("going", 1), lines("top a b: top(top(a b) [a a])"), "top", [grown, None], 1)
        self.assert_run(("grown", 2), lines("top a: [two(a) [a a]]", "two a: -"), "top", [grown], 2)

    def test_a_pair_that_is_not_kept_grows_all_the_same(self):
        self.assert_run(("grown", 1), lines("top a: <[- [a a]]"), "top", [right_tree(30)])
        self.assert_run(("grown", 1), lines("top a: {[a a] - -}"), "top", [right_tree(30)])
        self.assert_run(("grown", 1), lines("top a: two([a a])", "two a: -"), "top", [right_tree(30)])

    def test_trees_larger_than_sixty_that_are_handed_in_are_no_pairs_of_the_run(self):
        self.assert_run(("done", right_tree(70), 1), lines("top a: a"), "top", [right_tree(70)])
        self.assert_run(("done", right_tree(69), 2), lines("top a: two(>a)", "two a: a"), "top", [right_tree(70)])
        self.assert_run(("grown", 1), lines("top a: [a -]"), "top", [right_tree(70)])

    def test_the_saying_of_a_fork_that_is_not_worked_out(self):
        grown = right_tree(60)
        for text in ("{a - [a a]}", "{a - loop(a)}", "{- [a a] -}", "{- loop(a) -}", "{>- [a a] <-}",
                     "{a {- loop(a) -} [loop(a) loop(a)]}"):
            with self.subTest(text):
                self.assert_run(("done", None, 1), lines("top a: " + text) + LOOP, "top", [grown])

    def test_the_first_saying_of_a_fork_is_worked_out_once_and_first(self):
        program = lines("top a: {two(a) three(a) three(-)}", "two a: a", "three a: -")
        self.assert_run(("done", None, 3), program, "top", [ONE])
        self.assertEqual([entry[1:3] for entry in entries(program, "top", [ONE], 9)],
                         [(None, "top"), (0, "two"), (1, "three")])
        self.assertEqual([entry[1:3] for entry in entries(program, "top", [None], 9)],
                         [(None, "top"), (0, "two"), (2, "three")])

    def test_what_is_sent_is_worked_out_once_even_where_it_is_used_twice_or_not_at_all(self):
        self.assert_run(("done", ONE, 3), lines("top a: two(one(a))", "one a: a", "two a: [a a]"), "top", [None])
        self.assert_run(("done", None, 3), lines("top a: two(one(a))", "one a: a", "two a: -"), "top", [ONE])


class TestEntries(RunCase):
    def test_the_first_entry(self):
        self.assertEqual(entries(lines("top a b: a"), "top", [ONE, None], 5), [(None, None, "top", (ONE, None))])

    def test_an_errand_that_sends_itself(self):
        self.assertEqual(entries(APP, "app", [TWO, ONE], 9), [
            (None, None, "app", (TWO, ONE)), (0, 0, "app", (ONE, ONE)), (1, 0, "app", (None, ONE))])

    def test_from_left_to_right_in_a_pair(self):
        program = lines("top a: [[two(a) one(-)] one(a)]", "one a: a", "two a: one(<a)")
        self.assertEqual(entries(program, "top", [TWO], 9), [
            (None, None, "top", (TWO,)), (0, 0, "two", (TWO,)), (1, 3, "one", (None,)),
            (0, 1, "one", (None,)), (0, 2, "one", (TWO,))])

    def test_what_is_sent_is_begun_ahead_of_the_entry_that_it_is_sent_to(self):
        program = lines("top a: one(two(a) one(a -))", "one a b: [a b]", "two a: >a")
        self.assertEqual(entries(program, "top", [ONE], 9), [
            (None, None, "top", (ONE,)), (0, 1, "two", (ONE,)), (0, 2, "one", (ONE, None)),
            (0, 0, "one", (None, (ONE, None)))])

    def test_sends_within_sends(self):
        program = lines("top a: p(q(r(a)))", "p a: [a -]", "q a: [- a]", "r a: [a a]")
        self.assertEqual(entries(program, "top", [None], 9), [
            (None, None, "top", (None,)), (0, 2, "r", (None,)), (0, 1, "q", (ONE,)), (0, 0, "p", ((None, ONE),))])

    def test_the_parents_place_is_that_of_the_entry_whose_body_sent(self):
        program = lines("top a: [two(a) two(a)]", "two a: [one(a) one(-)]", "one a: a")
        told = entries(program, "top", [ONE], 9)
        self.assertEqual([entry[:3] for entry in told], [
            (None, None, "top"), (0, 0, "two"), (1, 2, "one"), (1, 3, "one"),
            (0, 1, "two"), (4, 2, "one"), (4, 3, "one")])

    def test_numbers_of_sends_go_on_from_errand_to_errand(self):
        program = lines("one a: -", "two a: {a one(a) one(-)}", "three a: [two(-) two(a)]")
        told = entries(program, "three", [ONE], 9)
        self.assertEqual([entry[:3] for entry in told], [
            (None, None, "three"), (0, 2, "two"), (1, 1, "one"), (0, 3, "two"), (3, 0, "one")])

    def test_the_same_saying_in_several_places_is_a_send_of_its_own_in_each(self):
        again = send("one", A)
        program = [("one", ("a",), A), ("top", ("a",), pair(again, pair(again, send("one", again))))]
        told = entries(program, "top", [ONE], 9)
        self.assertEqual([entry[1] for entry in told], [None, 0, 1, 3, 2])

    def test_a_run_that_goes_on_tells_those_that_were_begun(self):
        for most in (1, 2, 3, 100):
            told = entries(LOOP, "loop", [ONE], most)
            self.assertEqual(told, [(None, None, "loop", (ONE,))] + [
                (place, 0, "loop", (ONE,)) for place in range(most - 1)])

    def test_a_run_that_grows_tells_those_that_were_begun(self):
        self.assertEqual(entries(GROW, "grow", [right_tree(59)], 9), [
            (None, None, "grow", (right_tree(59),)), (0, 0, "grow", ((right_tree(59), None),))])

    def test_kinds(self):
        told = entries(APP, "app", [TWO, ONE], 9)
        self.assertIs(type(told), list)
        for place, entry in enumerate(told):
            self.assertEqual((type(entry), len(entry)), (tuple, 4))
            self.assertIs(type(entry[3]), tuple)
            self.assertEqual([type(part) for part in entry[:2]], [int, int] if place else [type(None)] * 2)
        for most in (0, 3):
            self.assertIs(type(run(APP, "app", [TWO, ONE], most)), tuple)


class TestRefusals(unittest.TestCase):
    def assert_refused(self, refusal, program, word, trees):
        for most in (0, 1, 100):
            for asked in (run, entries):
                with self.subTest(f"{asked.__name__} {word} {most}"):
                    with self.assertRaises(refusal):
                        asked(program, word, trees, most)

    def test_no_such_errand(self):
        for word in ("none", "ap", "appp", "a", "b"):
            self.assert_refused(NoSuch, APP, word, [None, None])

    def test_a_wrong_count_of_trees(self):
        for trees in ([], [None], [None] * 3, [ONE], [None] * 4):
            self.assert_refused(WrongCount, APP, "app", trees)
        self.assert_refused(WrongCount, APP + LOOP, "loop", [None, None])

    def test_no_such_stands_ahead_of_wrong_count(self):
        for trees in ([], [None], [None] * 3):
            self.assert_refused(NoSuch, APP, "none", trees)


class TestAgainstAPlainRun(unittest.TestCase):
    def test_drawn_programs(self):
        draw = random.Random(3)
        seen = {"done": 0, "going": 0, "grown": 0}
        for _ in range(1500):
            program = drawn_program(draw)
            for word, params, _ in program:
                trees = [drawn_tree(draw, draw.choice((0, 1, 2, 5, 9, 40, 60))) for _ in params]
                most = draw.choice((0, 1, 2, 3, 10, 25))
                ending, begun = plain_run(program, word, trees, most)
                seen[ending[0]] += 1
                self.assertEqual(run(program, word, trees, most), ending)
                self.assertEqual(entries(program, word, trees, most), begun)
        self.assertGreater(min(seen.values()), 50)


class TestWhatIsHandedInAndTold(unittest.TestCase):
    def test_what_is_handed_in_stays_as_it_was(self):
        trees = [TWO, ONE]
        program = copy.deepcopy(APP)
        for most in (0, 1, 100):
            run(program, "app", trees, most)
            entries(program, "app", trees, most)
        self.assertEqual((program, trees), (APP, [TWO, ONE]))

    def test_trees_that_are_changed_later(self):
        trees = [TWO, ONE]
        told = entries(APP, "app", trees, 9)
        trees.clear()
        self.assertEqual(told[0], (None, None, "app", (TWO, ONE)))

    def test_a_list_that_was_told_may_be_changed(self):
        wanted = list(entries(APP, "app", [TWO, ONE], 9))
        told = entries(APP, "app", [TWO, ONE], 9)
        told.reverse()
        told.append(None)
        self.assertEqual(entries(APP, "app", [TWO, ONE], 9), wanted)
        self.assertEqual(run(APP, "app", [TWO, ONE], 9), ("done", (None, (None, ONE)), 3))


if __name__ == "__main__":
    unittest.main()
