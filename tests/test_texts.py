"""Points 1, 4, 5, 7 and 8: an errand's line, how it is written, what is read and what is refused."""

import itertools
import random
import unittest

from errandend.errors import BadText
from errandend.texts import read_line, shown_line
from helper import A, B, BUD, drawn_program, fork, left, name, pair, right, send

SIGNS = ["\t", "\n"] + [chr(code) for code in range(ord(" "), ord("~") + 1) if chr(code) != "%"]

# Each saying with its text.
SAYINGS = [
    (A, "a"),
    (name("abcdefgh"), "abcdefgh"),
    (name("z"), "z"),
    (BUD, "-"),
    (pair(A, B), "[a b]"),
    (pair(BUD, BUD), "[- -]"),
    (left(A), "<a"),
    (right(A), ">a"),
    (left(BUD), "<-"),
    (left(right(left(A))), "<><a"),
    (right(pair(A, BUD)), ">[a -]"),
    (left(fork(A, B, BUD)), "<{a b -}"),
    (right(send("app", A, B)), ">app(a b)"),
    (fork(A, B, BUD), "{a b -}"),
    (fork(left(A), right(B), pair(A, B)), "{<a >b [a b]}"),
    (fork(fork(A, B, A), fork(B, A, B), fork(A, A, A)), "{{a b a} {b a b} {a a a}}"),
    (send("app", A), "app(a)"),
    (send("app", A, B), "app(a b)"),
    (send("app", A, B, BUD), "app(a b -)"),
    (send("app", A, B, BUD, A), "app(a b - a)"),
    (send("a", A), "a(a)"),
    (send("abcdefgh", send("q", send("r", BUD))), "abcdefgh(q(r(-)))"),
    (send("app", left(A), pair(A, B), fork(A, B, A)), "app(<a [a b] {a b a})"),
    (pair(pair(A, B), pair(B, A)), "[[a b] [b a]]"),
    (pair(left(A), send("app", right(A), B)), "[<a app(>a b)]"),
    (pair(name("name"), send("send", name("pair"), name("fork"))), "[name send(pair fork)]"),
]

# Each one puts a saying into another one, and says the same of texts.
AROUND = [
    (left, lambda text: "<" + text),
    (right, lambda text: ">" + text),
    (lambda saying: pair(saying, A), lambda text: f"[{text} a]"),
    (lambda saying: pair(BUD, saying), lambda text: f"[- {text}]"),
    (lambda saying: fork(saying, A, BUD), lambda text: "{" + text + " a -}"),
    (lambda saying: fork(A, saying, BUD), lambda text: "{a " + text + " -}"),
    (lambda saying: fork(A, BUD, saying), lambda text: "{a - " + text + "}"),
    (lambda saying: send("app", saying), lambda text: f"app({text})"),
    (lambda saying: send("app", A, saying), lambda text: f"app(a {text})"),
    (lambda saying: send("app", A, saying, BUD, A), lambda text: f"app(a {text} - a)"),
]


def deep_saying(around, deep, innermost=A):
    saying = innermost
    for _ in range(deep - 1):
        saying = around(saying)
    return saying


def is_plain(value):
    """Whether it is made of texts and tuples alone, to the very class."""
    return type(value) is str or (type(value) is tuple and all(is_plain(part) for part in value))


class LineCase(unittest.TestCase):
    def assert_refused(self, text):
        with self.subTest(text[:80]):
            with self.assertRaises(BadText):
                read_line(text)

    def assert_body_refused(self, text):
        self.assert_refused("app a b: " + text)

    def assert_line(self, errand, text):
        with self.subTest(text[:80]):
            self.assertEqual(shown_line(errand), text)
            told = read_line(text)
            self.assertEqual(told, errand)
            self.assertTrue(is_plain(told))


class TestWrittenAndReadBack(LineCase):
    def test_the_documents_own_example(self):
        app = ("app", ("a", "b"), fork(A, pair(left(A), send("app", right(A), B)), B))
        self.assert_line(app, "app a b: {a [<a app(>a b)] b}")

    def test_each_kind_of_saying(self):
        for saying, text in SAYINGS:
            self.assert_line(("app", ("a", "b"), saying), "app a b: " + text)

    def test_one_to_four_parameters(self):
        self.assert_line(("app", ("a",), A), "app a: a")
        self.assert_line(("app", ("a", "b"), A), "app a b: a")
        self.assert_line(("app", ("a", "b", "c"), A), "app a b c: a")
        self.assert_line(("app", ("d", "c", "b", "a"), A), "app d c b a: a")

    def test_names_of_one_and_of_eight_letters(self):
        self.assert_line(("z", ("q",), name("q")), "z q: q")
        for word in ("abcdefgh", "ijklmnop", "qrstuvwx", "yzyzyzyz", "aaaaaaaa"):
            self.assert_line((word, (word,), send(word, name(word))), f"{word} {word}: {word}({word})")

    def test_twelve_deep(self):
        for around, written in AROUND:
            text = "a"
            for _ in range(11):
                text = written(text)
            self.assert_line(("app", ("a",), deep_saying(around, 12)), "app a: " + text)

    def test_twelve_deep_in_every_way_by_turns(self):
        for first in range(len(AROUND)):
            saying, text = BUD, "-"
            for step in range(11):
                around, written = AROUND[(first + step) % len(AROUND)]
                saying, text = around(saying), written(text)
            self.assert_line(("app", ("a",), saying), "app a: " + text)

    def test_a_text_of_nearly_two_thousand_signs(self):
        saying = A
        for _ in range(7):
            saying = pair(saying, saying)
        text = shown_line(("app", ("a",), saying))
        self.assertEqual(len(text), len("app a: ") + 128 + 127 * 3)
        self.assert_line(("app", ("a",), fork(saying, saying, saying)), "app a: {" + " ".join([text[7:]] * 3) + "}")

    def test_whether_names_are_there_or_stand_twice_is_not_looked_at(self):
        self.assert_line(("app", ("a",), name("b")), "app a: b")
        self.assert_line(("app", ("a", "a"), A), "app a a: a")
        self.assert_line(("app", ("app",), name("app")), "app app: app")
        self.assert_line(("app", ("a", "b", "a", "b"), send("none", name("c"))), "app a b a b: none(c)")

    def test_how_many_sayings_an_errand_needs_is_not_looked_at(self):
        self.assert_line(("app", ("a",), send("app", A, B)), "app a: app(a b)")
        self.assert_line(("app", ("a", "b"), send("app", A)), "app a b: app(a)")
        self.assert_line(("app", ("a",), pair(send("q", A), send("q", A, A))), "app a: [q(a) q(a a)]")

    def test_a_line_with_more_sends_than_a_program_has(self):
        saying = BUD
        text = "-"
        for _ in range(5):
            saying, text = send("app", saying, saying), f"app({text} {text})"
        self.assert_line(("app", ("a", "b"), saying), "app a b: " + text)

    def test_drawn_errands(self):
        draw = random.Random(1)
        for _ in range(500):
            for errand in drawn_program(draw):
                text = shown_line(errand)
                self.assertEqual(read_line(text), errand)


class TestShownLine(unittest.TestCase):
    def test_a_text_is_a_text(self):
        for saying, text in SAYINGS:
            self.assertIs(type(shown_line(("app", ("a",), saying))), str)

    def test_what_lies_somewhat_beyond_a_bound_is_written(self):
        self.assertEqual(shown_line(("app", ("a",), deep_saying(left, 13))), "app a: " + "<" * 12 + "a")
        self.assertEqual(shown_line(("app", ("a",), deep_saying(left, 500))), "app a: " + "<" * 499 + "a")
        wide = ("app", ("a", "b", "c", "d", "e"), send("app", A, A, A, A, A))
        self.assertEqual(shown_line(wide), "app a b c d e: app(a a a a a)")
        self.assertEqual(shown_line(("abcdefghi", ("abcdefghi",), name("abcdefghi"))), "abcdefghi abcdefghi: abcdefghi")


class TestRefusedHeads(LineCase):
    def test_the_empty_text_and_spaces_alone(self):
        for text in ("", " ", "\n", "\t", ":", ": ", " :", " : ", ": -", "-", "a", " " * 2000):
            self.assert_refused(text)

    def test_a_space_too_many_anywhere(self):
        text = "app a b: {a [<a app(>a b)] b}"
        read_line(text)
        for space in (" ", "\t", "\n"):
            for place in range(len(text) + 1):
                put = text[:place] + space + text[place:]
                # Within a name a blank may make two names of it, and of the errand's name a name and a parameter.
                if put in ("a pp a b: {a [<a app(>a b)] b}", "ap p a b: {a [<a app(>a b)] b}"):
                    self.assertEqual(len(read_line(put)[1]), 3)
                else:
                    self.assert_refused(put)

    def test_a_blank_missing_or_of_another_sort(self):
        text = "app a b: {a [<a app(>a b)] b}"
        for place in [place for place, sign in enumerate(text) if sign == " "]:
            for space in ("\t", "\n", "  "):
                self.assert_refused(text[:place] + space + text[place + 1:])
        for bad in ("app a b:{a [<a app(>a b)] b}", "app a b: {a[<a app(>a b)] b}", "app a b: {a [<aapp(>a b)] b}",
                    "app a b: {a [<a app(>a b)]b}", "appab: a"):
            self.assert_refused(bad)

    def test_a_colon_too_many_or_missing(self):
        for text in ("app a b a", "app a b", "app a b  a", "app a b:: a", "app a b: : a", "app a: b: a", "app: a b: a",
                     ": app a: a", "app a b: a:", "app a b: a: ", "app a b: [a: b]", "app a b :a", "app a b : a",
                     "app a b; a", "app a b:", "app a b: ", "app a b:a", "app a b:\ta", "app a b:\na"):
            self.assert_refused(text)

    def test_none_or_five_parameters(self):
        self.assert_refused("app: -")
        self.assert_refused("app : -")
        self.assert_refused("app  : -")
        self.assert_refused("app a b c d e: -")
        self.assert_refused("app a b c d e f: -")
        self.assert_refused("app a a a a a: a")

    def test_no_name(self):
        self.assert_refused(" a: -")
        self.assert_refused(" a b: -")

    def test_names_of_nine_letters(self):
        self.assert_refused("abcdefghi a: a")
        self.assert_refused("app abcdefghi: a")
        self.assert_refused("app a abcdefghi: a")
        self.assert_refused("app a: abcdefghi")
        self.assert_refused("app a: abcdefghi(a)")
        self.assert_refused("app a: <abcdefghi")
        self.assert_refused("app a: " + "a" * 1900)

    def test_names_with_another_sign(self):
        for sign in SIGNS:
            if "a" <= sign <= "z":
                continue
            for word in (sign, "a" + sign, sign + "a", "a" + sign + "a"):
                if sign != " ":
                    self.assert_refused(f"{word} a: -")
                    self.assert_refused(f"app {word}: -")
                    self.assert_refused(f"app a {word} b: -")
                if sign not in "<>" or not word.startswith(sign):
                    self.assert_refused(f"app a: {word}(a)")
        for word in ("A", "App", "aPP", "apP", "a1", "1a", "1", "a_", "_a", "a-b", "a.b", "a'"):
            self.assert_refused(f"{word} a: -")
            self.assert_refused(f"app {word}: -")
            self.assert_body_refused(word)
            self.assert_body_refused(f"{word}(a)")

    def test_something_ahead(self):
        for text in ("-app a: a", "\napp a: a", "\tapp a: a", " app a: a", "[app a: a", "(app a: a)"):
            self.assert_refused(text)


class TestRefusedBodies(LineCase):
    def test_pairs_with_too_few_or_too_many_sayings(self):
        for text in ("[]", "[ ]", "[a]", "[a ]", "[ a]", "[a b a]", "[a b a b]", "[[a b]]", "[[a b] a b]", "[a [a]]"):
            self.assert_body_refused(text)

    def test_forks_with_too_few_or_too_many_sayings(self):
        for text in ("{}", "{ }", "{a}", "{a b}", "{a b }", "{a  b}", "{a b a b}", "{{a b a} a}", "{a {a b} a}"):
            self.assert_body_refused(text)

    def test_sends_with_none_or_five_sayings(self):
        for text in ("app()", "app( )", "app(a b a b a)", "app(a b a b a b)", "app(app() a)", "[app() a]"):
            self.assert_body_refused(text)

    def test_sends_without_a_name(self):
        for text in ("(a b)", "(a)", "()", "[(a b) a]", "-(a)", "[a b](a)", "<(a)", "app(a)(b)", "app (a b)",
                     "app (a)"):
            self.assert_body_refused(text)

    def test_lefts_and_rights_of_nothing_or_of_two(self):
        for text in ("<", ">", "<>", "< a", "> a", "<a b", "<a>", "a<", "a>", "[< a]", "[a <]", "<a<b", "app(<)",
                     "<<<"):
            self.assert_body_refused(text)

    def test_thirteen_deep(self):
        for around, written in AROUND:
            for innermost, text in ((A, "a"), (BUD, "-")):
                for _ in range(12):
                    text = written(text)
                self.assertEqual(shown_line(("app", ("a",), deep_saying(around, 13, innermost))), "app a: " + text)
                self.assert_refused("app a: " + text)
                self.assert_refused("app a: [a " + text + "]")

    def test_far_deeper(self):
        for many in (14, 50, 100, 333, 600, 1900):
            for sign in "<>":
                self.assert_body_refused(sign * many)
                self.assert_body_refused(sign * many + "a")
        for many in (14, 50, 100):
            self.assert_body_refused("[" * many)
            self.assert_body_refused("{" * many)
            self.assert_body_refused("a(" * many)
            self.assert_body_refused("[- " * many + "-" + "]" * many)
            self.assert_body_refused("[" * many + "-" + " -]" * many)
            self.assert_body_refused("a(" * many + "a" + ")" * many)
            self.assert_body_refused("{- - " * many + "-" + "}" * many)
            self.assert_body_refused("]" * many)

    def test_one_bracket_closed_by_anothers_end(self):
        for text in ("[a b)", "[a b}", "[a b>", "{a b a]", "{a b a)", "app(a b]", "app(a b}", "app[a b]", "app{a b a}",
                     "[a app(b])", "[app(a] b)", "{a [b a} b]", "[{a b a] b}", "(a b]", "]a b[", ")a b(", "}a b a{"):
            self.assert_body_refused(text)

    def test_a_bracket_too_many_or_missing(self):
        for saying, text in SAYINGS:
            for bracket in "[]{}()":
                for place in range(len(text) + 1):
                    self.assert_body_refused(text[:place] + bracket + text[place:])
                if bracket in text:
                    self.assert_body_refused(text.replace(bracket, "", 1))

    def test_something_behind(self):
        for saying, text in SAYINGS:
            for behind in (" ", "\n", "\t", "-", " -", " a", "]", ")", "}", " [a b]", "[a b]", "<a", ":", "1", "\n\n"):
                self.assert_body_refused(text + behind)

    def test_a_line_cut_off(self):
        text = "app a b: {a [<a app(>a b)] b}"
        for place in range(len(text)):
            self.assert_refused(text[:place])
        for place in range(text.index("b: "), len(text)):
            self.assert_refused(text[place:])

    def test_every_sign_by_itself(self):
        for sign in SIGNS:
            if sign == "-" or "a" <= sign <= "z":
                self.assertEqual(shown_line(read_line("app a b: " + sign)), "app a b: " + sign)
            else:
                self.assert_body_refused(sign)
                self.assert_body_refused(f"[a {sign}]")
                self.assert_body_refused(f"app({sign})")

    def test_a_text_beyond_two_thousand_signs_is_refused_as_bad_alone(self):
        for text in ("[a b]" * 500, "-" * 2500, "<" * 2500, "a(" * 1250, "a" * 2500):
            self.assert_refused(text)
            self.assert_body_refused(text)


def texts_up_to(signs, longest):
    """Every text of these signs of at most so many signs."""
    for length in range(longest + 1):
        for chosen in itertools.product(signs, repeat=length):
            yield "".join(chosen)


def rows_of(made, many, room):
    """Texts of `many` sayings with one blank between, in at most so much room; `made` are the sayings' texts."""
    rows = [text for text in made if len(text) <= room]
    for _ in range(many - 1):
        rows = [row + " " + text for row in rows for text in made if len(row) + 1 + len(text) <= room]
    return rows


def all_body_texts(longest):
    """The texts of all bodies over the one letter `a` of at most so many signs, by the rules of point 7 alone."""
    words = ["a" * many for many in range(1, min(8, longest) + 1)]
    made = {"-"}.union(words)
    while True:
        grown = set(made)
        grown.update(sign + text for sign in "<>" for text in made if len(text) < longest)
        grown.update("[" + row + "]" for row in rows_of(made, 2, longest - 2))
        grown.update("{" + row + "}" for row in rows_of(made, 3, longest - 2))
        for word in words:
            for many in range(1, 5):
                grown.update(f"{word}({row})" for row in rows_of(made, many, longest - 2 - len(word)))
        if grown == made:
            return made
        made = grown


class TestEveryShortText(unittest.TestCase):
    def assert_read_just(self, wanted, text):
        try:
            errand = read_line("a a: " + text)
        except BadText:
            self.assertNotIn(text, wanted)
        else:
            self.assertIn(text, wanted)
            self.assertEqual(shown_line(errand), "a a: " + text)

    def test_every_short_body(self):
        wanted = all_body_texts(7)
        for signs, longest in (("-[] ", 7), ("-{} ", 7), ("a() ", 7), ("a<> ", 6), ("a-[(<{ >)]}:", 4)):
            for text in texts_up_to(signs, longest):
                self.assert_read_just(wanted, text)

    def test_every_written_body_is_read(self):
        for text in all_body_texts(6):
            self.assertEqual(shown_line(read_line("a a: " + text)), "a a: " + text)

    def test_every_short_line(self):
        wanted = {"a a: -", "a a: a", "aa a: -", "a aa: -", "a a: aa", "aa a: a", "a aa: a"}
        for text in texts_up_to("a: -", 7):
            try:
                errand = read_line(text)
            except BadText:
                self.assertNotIn(text, wanted)
            else:
                self.assertIn(text, wanted)
                self.assertEqual(shown_line(errand), text)

    def test_a_drawn_line_with_one_sign_turned_is_read_as_it_is_or_refused(self):
        draw = random.Random(2)
        read = 0
        for _ in range(3000):
            text = shown_line(draw.choice(drawn_program(draw)))
            place = draw.randrange(len(text))
            turned = text[:place] + draw.choice(SIGNS) + text[place + draw.randrange(2):]
            try:
                errand = read_line(turned)
            except BadText:
                continue
            read += 1
            self.assertEqual(shown_line(errand), turned)
        self.assertGreater(read, 100)


class TestNothingHangsOnEarlierCalls(unittest.TestCase):
    def test_a_refusal_leaves_nothing_behind(self):
        for _ in range(3):
            with self.assertRaises(BadText):
                read_line("app a: [a [a")
            self.assertEqual(read_line("app a: a"), ("app", ("a",), A))
            with self.assertRaises(BadText):
                read_line("app a: " + "<" * 12 + "a")
            self.assertEqual(read_line("app a: " + "<" * 11 + "a"), ("app", ("a",), deep_saying(left, 12)))


if __name__ == "__main__":
    unittest.main()
