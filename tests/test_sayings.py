"""Points 1, 4, 5 and 6: the numbers of sends, and how a program is looked through."""

import copy
import unittest

from errandend.errors import NoSuch, Twice, WrongCount
from errandend.sayings import looked, sends
from helper import A, B, BUD, fork, left, name, pair, right, send

# app a b: {a [<a app(>a b)] b}
APP = ("app", ("a", "b"), fork(A, pair(left(A), send("app", right(A), B)), B))
# rev a b: {a rev(>a [<a b]) b}
REV = ("rev", ("a", "b"), fork(A, send("rev", right(A), pair(left(A), B)), B))
# turn a: rev(a -)
TURN = ("turn", ("a",), send("rev", A, BUD))

# Errands to be sent, without a send of their own: each takes one parameter.
LEAVES = [(word, ("x",), BUD) for word in ("p", "q", "r", "s")]


def body_program(body):
    """A program whose first errand is `top a b` with this body, with p, q, r and s behind it."""
    return [("top", ("a", "b"), body)] + LEAVES


def told_order(body):
    return [sent for sender, sent in sends(body_program(body))]


class TestSends(unittest.TestCase):
    def test_one_send(self):
        self.assertEqual(sends([APP]), [("app", "app")])

    def test_no_send(self):
        self.assertEqual(sends([("same", ("a",), A)]), [])

    def test_errand_by_errand_in_the_programs_order(self):
        self.assertEqual(sends([APP, TURN, REV]), [("app", "app"), ("turn", "rev"), ("rev", "rev")])
        self.assertEqual(sends([REV, TURN, APP]), [("rev", "rev"), ("turn", "rev"), ("app", "app")])

    def test_a_send_stands_ahead_of_those_in_what_it_is_sent(self):
        self.assertEqual(told_order(send("p", send("q", send("r", A)))), ["p", "q", "r"])
        self.assertEqual(told_order(send("top", send("p", A), send("q", A))), ["top", "p", "q"])
        self.assertEqual(told_order(send("top", send("q", send("s", A)), send("p", A))), ["top", "q", "s", "p"])

    def test_in_a_fork_from_left_to_right(self):
        self.assertEqual(told_order(fork(send("q", A), send("p", A), send("r", A))), ["q", "p", "r"])

    def test_in_a_pair_from_left_to_right(self):
        self.assertEqual(told_order(pair(send("q", A), send("p", A))), ["q", "p"])

    def test_in_lefts_and_rights(self):
        self.assertEqual(told_order(left(send("p", A))), ["p"])
        self.assertEqual(told_order(right(send("p", A))), ["p"])
        self.assertEqual(told_order(left(right(left(send("p", right(send("q", A))))))), ["p", "q"])

    def test_sayings_of_every_sort_within_one_another(self):
        body = fork(
            left(send("s", pair(send("r", A), BUD))),
            pair(send("p", right(send("q", B))), fork(A, send("p", A), send("s", B))),
            send("top", send("q", A), left(send("r", B))),
        )
        self.assertEqual(told_order(body), ["s", "r", "p", "q", "p", "s", "top", "q", "r"])

    def test_a_deeper_send_is_not_put_behind_a_later_shallow_one(self):
        self.assertEqual(told_order(pair(pair(pair(A, send("p", A)), A), send("q", A))), ["p", "q"])
        self.assertEqual(told_order(pair(send("q", A), pair(pair(A, send("p", A)), A))), ["q", "p"])

    def test_a_send_with_four_sayings(self):
        wide = ("wide", ("a", "b", "c", "d"), send("wide", *[send(word, A) for word in ("r", "q", "p", "s")]))
        told = sends([wide] + LEAVES)
        self.assertEqual(told, [("wide", word) for word in ("wide", "r", "q", "p", "s")])

    def test_the_same_saying_in_several_places_counts_each_time(self):
        twice = send("p", A)
        self.assertEqual(told_order(pair(twice, twice)), ["p", "p"])
        self.assertEqual(sends([("one", ("a",), send("one", A)), ("two", ("a",), send("one", A))]),
                         [("one", "one"), ("two", "one")])

    def test_what_is_told_is_a_list_of_tuples_of_two(self):
        told = sends([APP, TURN, REV])
        self.assertIs(type(told), list)
        for row in told:
            self.assertIs(type(row), tuple)
            self.assertEqual(len(row), 2)

    def test_twelve_sends_and_twelve_deep(self):
        body = A
        for _ in range(11):
            body = send("p", body)
        self.assertEqual(told_order(body), ["p"] * 11)
        self.assertEqual(looked(body_program(body)), 11)
        self.assertEqual(looked(body_program(body) + [("last", ("a",), send("q", A))]), 12)

    def test_names_like_the_words_of_sayings(self):
        program = [("send", ("name", "bud"), send("fork", name("name"))),
                   ("fork", ("pair",), send("send", name("pair"), send("fork", BUD)))]
        self.assertEqual(looked(program), 3)
        self.assertEqual(sends(program), [("send", "fork"), ("fork", "send"), ("fork", "fork")])


class TestLookedLetsThrough(unittest.TestCase):
    def test_how_many_sends(self):
        self.assertEqual(looked([APP]), 1)
        self.assertEqual(looked([APP, TURN, REV]), 3)
        self.assertEqual(looked([("same", ("a",), A)]), 0)
        self.assertEqual(looked(LEAVES), 0)

    def test_the_number_is_a_whole_number(self):
        for program in ([APP], LEAVES):
            self.assertIs(type(looked(program)), int)

    def test_sends_within_sends_count(self):
        self.assertEqual(looked(body_program(send("top", send("p", send("q", A)), fork(A, send("r", B), BUD)))), 4)

    def test_an_errand_may_send_itself_an_earlier_and_a_later_one(self):
        program = [("one", ("a",), send("two", A)), ("two", ("a",), pair(send("one", A), send("two", A)))]
        self.assertEqual(looked(program), 3)

    def test_two_errands_may_have_the_same_parameters(self):
        self.assertEqual(looked([("one", ("a", "b"), A), ("two", ("a", "b"), B)]), 0)

    def test_a_parameter_may_be_called_like_an_errand(self):
        self.assertEqual(looked([("a", ("a",), send("a", A)), ("b", ("a",), A)]), 1)

    def test_a_parameter_need_not_be_used(self):
        self.assertEqual(looked([("one", ("a", "b", "c", "d"), BUD)]), 0)

    def test_one_to_four_parameters(self):
        words = ("a", "b", "c", "d")
        for many in range(1, 5):
            params = words[:many]
            body = send("one", *[name(word) for word in params])
            self.assertEqual(looked([("one", params, body)]), 1)

    def test_eight_errands(self):
        words = ["e" + "abcdefgh"[place] for place in range(8)]
        program = [(word, ("a",), send(words[7 - place], A)) for place, word in enumerate(words)]
        self.assertEqual(looked(program), 8)
        self.assertEqual(sends(program), [(word, words[7 - place]) for place, word in enumerate(words)])

    def test_nothing_is_refused_for_lying_somewhat_beyond_a_bound(self):
        deep = A
        for _ in range(30):
            deep = left(deep)
        self.assertEqual(looked([("one", ("a",), deep)]), 0)
        many = BUD
        for _ in range(15):
            many = pair(send("one", A), many)
        self.assertEqual(looked([("one", ("a",), many)]), 15)
        self.assertEqual(len(sends([("one", ("a",), many)])), 15)
        self.assertEqual(looked([("e" * place, ("a",), A) for place in range(1, 12)]), 0)
        params = ("a", "b", "c", "d", "e")
        self.assertEqual(looked([("one", params, send("one", *[name(word) for word in params]))]), 1)


class RefusalCase(unittest.TestCase):
    def assert_refused(self, refusal, program):
        with self.assertRaises(refusal):
            looked(program)

    def assert_body_refused(self, refusal, body):
        self.assert_refused(refusal, body_program(body))


class TestLookedRefuses(RefusalCase):
    def test_two_errands_of_one_name(self):
        self.assert_refused(Twice, [("one", ("a",), A), ("one", ("b",), B)])
        self.assert_refused(Twice, [("one", ("a",), A), ("one", ("a",), A)])
        self.assert_refused(Twice, [("one", ("a",), A), ("two", ("a",), A), ("one", ("a", "b"), A)])

    def test_two_parameters_of_one_name(self):
        self.assert_refused(Twice, [("one", ("a", "a"), A)])
        self.assert_refused(Twice, [("one", ("a", "b", "c", "a"), A)])
        self.assert_refused(Twice, [("one", ("a",), A), ("two", ("a", "b", "b"), A)])

    def test_a_name_that_is_no_parameter(self):
        self.assert_body_refused(NoSuch, name("c"))
        self.assert_body_refused(NoSuch, name("aa"))

    def test_a_name_that_is_only_an_errand_or_anothers_parameter(self):
        self.assert_body_refused(NoSuch, name("top"))
        self.assert_body_refused(NoSuch, name("p"))
        self.assert_body_refused(NoSuch, name("x"))

    def test_a_send_of_a_name_that_no_errand_has(self):
        self.assert_body_refused(NoSuch, send("none", A))
        self.assert_body_refused(NoSuch, send("to", A, B))
        self.assert_body_refused(NoSuch, send("a", A))

    def test_a_send_with_more_or_fewer_sayings(self):
        self.assert_body_refused(WrongCount, send("p", A, B))
        self.assert_body_refused(WrongCount, send("top", A))
        self.assert_body_refused(WrongCount, send("top", A, B, A))
        self.assert_body_refused(WrongCount, send("top", A, B, A, B))

    def test_the_count_is_that_of_the_errand_sent_not_of_the_sender(self):
        self.assertEqual(looked(body_program(send("p", A))), 1)
        self.assert_refused(WrongCount, [("one", ("a",), send("two", A)), ("two", ("a", "b"), A)])
        self.assert_refused(WrongCount, [("two", ("a", "b"), send("one", A, B)), ("one", ("a",), A)])

    def test_a_fault_is_found_within_each_sort_of_saying(self):
        faults = [(NoSuch, name("c")), (NoSuch, send("none", A)), (WrongCount, send("p", A, B))]
        for refusal, fault in faults:
            bodies = [pair(fault, A), pair(A, fault), left(fault), right(fault), fork(fault, A, A),
                      fork(A, fault, A), fork(A, A, fault), send("p", fault), send("top", fault, A),
                      send("top", A, fault), left(pair(BUD, fork(A, B, send("p", right(fault)))))]
            for body in bodies:
                with self.subTest(body):
                    self.assert_body_refused(refusal, body)

    def test_a_fault_is_found_in_each_errand(self):
        for place in range(5):
            program = body_program(A)
            program[place] = (program[place][0], program[place][1], name("c"))
            with self.subTest(place):
                self.assert_refused(NoSuch, program)


class TestOrderOfRefusals(RefusalCase):
    def test_twice_stands_ahead_of_all_else(self):
        for body in (name("none"), send("none", A), send("one", A, A)):
            with self.subTest(body):
                faulty = ("one", ("a",), body)
                good = ("two", ("a",), A)
                self.assert_refused(Twice, [faulty, good, good])
                self.assert_refused(Twice, [faulty, good, ("last", ("a", "a"), A)])
                self.assert_refused(Twice, [faulty, faulty])
                self.assert_refused(Twice, [("one", ("a", "a"), body)])

    def test_a_send_stands_ahead_of_the_sayings_in_it(self):
        self.assert_body_refused(WrongCount, send("p", name("c"), A))
        self.assert_body_refused(WrongCount, send("p", A, send("none", A)))
        self.assert_body_refused(NoSuch, send("none", send("p", A, B)))
        self.assert_body_refused(NoSuch, send("top", name("c"), send("p", A, B)))
        self.assert_body_refused(WrongCount, send("top", send("p", A, B), name("c")))

    def test_a_send_of_no_errand_is_no_wrong_count(self):
        for many in range(1, 5):
            self.assert_body_refused(NoSuch, send("none", *[A] * many))

    def test_left_stands_ahead_of_right(self):
        missing = name("c")
        unsent = send("none", A)
        miscounted = send("p", A, B)
        for fault in (missing, unsent):
            for ahead, behind, refusal in ((fault, miscounted, NoSuch), (miscounted, fault, WrongCount)):
                bodies = [pair(ahead, behind), fork(ahead, behind, A), fork(ahead, A, behind),
                          fork(A, ahead, behind), send("top", ahead, behind),
                          pair(left(right(ahead)), behind), pair(ahead, left(right(behind))),
                          pair(pair(A, send("q", ahead)), behind), fork(A, pair(BUD, ahead), send("q", behind))]
                for body in bodies:
                    with self.subTest(body):
                        self.assert_body_refused(refusal, body)

    def test_an_earlier_errand_stands_ahead_of_a_later_one(self):
        missing = ("one", ("a",), pair(A, left(name("c"))))
        miscounted = ("two", ("a",), send("two", A, A))
        unsent = ("last", ("a",), send("none", A))
        self.assert_refused(NoSuch, [missing, miscounted])
        self.assert_refused(WrongCount, [miscounted, missing])
        self.assert_refused(NoSuch, [unsent, miscounted])
        self.assert_refused(WrongCount, [miscounted, unsent])
        self.assert_refused(WrongCount, [TURN, REV, miscounted, APP, unsent, missing])


class TestWhatIsHandedInAndTold(unittest.TestCase):
    def test_what_is_handed_in_stays_as_it_was(self):
        program = [APP, TURN, REV]
        before = copy.deepcopy(program)
        looked(program)
        sends(program)
        self.assertEqual(program, before)
        self.assertIs(type(program), list)

    def test_what_is_refused_stays_as_it_was(self):
        for program in ([APP, APP], [TURN], [("one", ("a",), send("one", A, A))]):
            before = copy.deepcopy(program)
            with self.assertRaises((Twice, NoSuch, WrongCount)):
                looked(program)
            self.assertEqual(program, before)

    def test_a_list_that_was_told_may_be_changed(self):
        program = [APP, TURN, REV]
        told = sends(program)
        wanted = list(told)
        told.append(("app", "turn"))
        told[0] = None
        self.assertEqual(sends(program), wanted)
        self.assertEqual(looked(program), 3)
        empty = sends(LEAVES)
        empty.append(("p", "q"))
        self.assertEqual(sends(LEAVES), [])

    def test_a_program_may_be_changed_later(self):
        program = [APP, TURN, REV]
        told = sends(program)
        program.clear()
        self.assertEqual(told, [("app", "app"), ("turn", "rev"), ("rev", "rev")])

    def test_a_changed_program_is_looked_through_anew(self):
        program = [APP, TURN, REV]
        self.assertEqual(looked(program), 3)
        program.pop()
        with self.assertRaises(NoSuch):
            looked(program)
        program[1] = ("rest", ("a",), pair(send("rest", A), send("rest", A)))
        self.assertEqual(looked(program), 3)
        self.assertEqual(sends(program), [("app", "app"), ("rest", "rest"), ("rest", "rest")])
        program.append(APP)
        with self.assertRaises(Twice):
            looked(program)

    def test_each_answer_hangs_on_what_is_handed_in_alone(self):
        other = [("app", ("a",), pair(send("app", A), send("app", BUD)))]
        for _ in range(3):
            self.assertEqual(looked([APP]), 1)
            self.assertEqual(looked(other), 2)
            with self.assertRaises(NoSuch):
                looked([TURN])
            self.assertEqual(sends([APP]), [("app", "app")])
            self.assertEqual(sends(other), [("app", "app"), ("app", "app")])


if __name__ == "__main__":
    unittest.main()
