"""Points 1, 2 and 3: trees, their size, how they are written, what is read and what is refused."""

import itertools
import unittest

from errandend.errors import BadText
from errandend.trees import read_tree, shown_tree, size
from helper import bushy_tree, left_tree, right_tree

ONE = (None, None)

# Each tree with its size and its text.
KNOWN = [
    (None, 0, "-"),
    (ONE, 1, "[- -]"),
    ((ONE, None), 2, "[[- -] -]"),
    ((None, ONE), 2, "[- [- -]]"),
    ((ONE, ONE), 3, "[[- -] [- -]]"),
    (((ONE, None), None), 3, "[[[- -] -] -]"),
    ((None, (None, ONE)), 3, "[- [- [- -]]]"),
    ((None, (ONE, None)), 3, "[- [[- -] -]]"),
    (((None, ONE), None), 3, "[[- [- -]] -]"),
    (((ONE, None), (None, ONE)), 5, "[[[- -] -] [- [- -]]]"),
]


def left_text(pairs):
    return "[" * pairs + "-" + " -]" * pairs


def right_text(pairs):
    return "[- " * pairs + "-" + "]" * pairs


def all_trees(pairs):
    if pairs == 0:
        return [None]
    trees = []
    for ahead in range(pairs):
        trees.extend(itertools.product(all_trees(ahead), all_trees(pairs - 1 - ahead)))
    return trees


def is_plain_tree(tree):
    """Whether it is made of None and tuples of two alone, to the very class."""
    if tree is None:
        return True
    return type(tree) is tuple and len(tree) == 2 and all(is_plain_tree(part) for part in tree)


class TestSize(unittest.TestCase):
    def test_known_sizes(self):
        for tree, pairs, text in KNOWN:
            with self.subTest(text):
                self.assertEqual(size(tree), pairs)

    def test_a_size_is_a_whole_number(self):
        for tree, _, text in KNOWN:
            with self.subTest(text):
                self.assertIs(type(size(tree)), int)

    def test_every_small_tree(self):
        for pairs in range(7):
            for tree in all_trees(pairs):
                self.assertEqual(size(tree), pairs)

    def test_sixty_pairs_and_somewhat_beyond(self):
        for pairs in (59, 60, 61, 70, 300):
            for grown in (left_tree, right_tree, bushy_tree):
                with self.subTest(f"{grown.__name__} {pairs}"):
                    self.assertEqual(size(grown(pairs)), pairs)

    def test_a_tree_within_it_twice_counts_twice(self):
        tree = None
        for _ in range(5):
            tree = (tree, tree)
        self.assertEqual(size(tree), 31)


class TestShownTree(unittest.TestCase):
    def test_known_texts(self):
        for tree, _, text in KNOWN:
            with self.subTest(text):
                self.assertEqual(shown_tree(tree), text)

    def test_a_text_is_a_text(self):
        for tree, _, text in KNOWN:
            with self.subTest(text):
                self.assertIs(type(shown_tree(tree)), str)

    def test_long_trees_and_somewhat_beyond_the_bound(self):
        for pairs in (59, 60, 61, 70, 300):
            with self.subTest(pairs):
                self.assertEqual(shown_tree(left_tree(pairs)), left_text(pairs))
                self.assertEqual(shown_tree(right_tree(pairs)), right_text(pairs))

    def test_different_trees_have_different_texts(self):
        texts = [shown_tree(tree) for pairs in range(7) for tree in all_trees(pairs)]
        self.assertEqual(len(set(texts)), len(texts))


class TestReadTree(unittest.TestCase):
    def assert_refused(self, text):
        with self.subTest(text[:60]):
            with self.assertRaises(BadText):
                read_tree(text)

    def test_known_texts(self):
        for tree, _, text in KNOWN:
            with self.subTest(text):
                self.assertEqual(read_tree(text), tree)

    def test_what_is_read_is_made_of_none_and_tuples_of_two(self):
        for _, _, text in KNOWN:
            with self.subTest(text):
                self.assertTrue(is_plain_tree(read_tree(text)))

    def test_every_small_tree_is_read_back(self):
        for pairs in range(7):
            for tree in all_trees(pairs):
                self.assertEqual(read_tree(shown_tree(tree)), tree)

    def test_sixty_pairs_are_read(self):
        for pairs in (59, 60):
            for grown in (left_tree, right_tree, bushy_tree):
                with self.subTest(f"{grown.__name__} {pairs}"):
                    self.assertEqual(read_tree(shown_tree(grown(pairs))), grown(pairs))

    def test_sixty_one_pairs_are_refused(self):
        for pairs in (61, 62, 100, 499):
            self.assert_refused(left_text(pairs))
            self.assert_refused(right_text(pairs))
            self.assert_refused(shown_tree(bushy_tree(pairs)))

    def test_many_brackets_within_one_another(self):
        self.assert_refused("[" * 100)
        self.assert_refused("]" * 100)
        self.assert_refused("[" * 100 + "]" * 100)
        self.assert_refused("[" * 100 + "-" + "]" * 100)
        self.assert_refused("[" * 60 + "-" + "]" * 60)
        self.assert_refused("[" * 1000 + "]" * 1000)
        self.assert_refused("[" * 2000)
        self.assert_refused("]" * 2000)
        self.assert_refused(left_text(2500))
        self.assert_refused(right_text(2500))

    def test_an_empty_text(self):
        self.assert_refused("")

    def test_a_blank_or_a_line_end_too_much(self):
        for space in (" ", "\n", "\t"):
            for text in ("-", "[- -]", "[[- -] -]"):
                for place in range(len(text) + 1):
                    self.assert_refused(text[:place] + space + text[place:])
        self.assert_refused("[-  -]")

    def test_another_space_in_the_place_of_the_blank(self):
        self.assert_refused("[-\t-]")
        self.assert_refused("[-\n-]")

    def test_spaces_alone(self):
        for text in (" ", "\n", "\t", "  ", " " * 2000):
            self.assert_refused(text)

    def test_a_blank_left_out(self):
        self.assert_refused("[--]")
        self.assert_refused("[[- -]-]")
        self.assert_refused("[-[- -]]")
        self.assert_refused("[[- -][- -]]")

    def test_a_bracket_left_out_or_too_much(self):
        for text in ("[- -", "- -]", "[[- -] -", "[- -] -]", "[- [- -]", "[- - -]]",
                     "[[- -]", "[- -]]", "[-", "-]", "[-]", "[", "]", "[]", "[ ]"):
            self.assert_refused(text)

    def test_something_behind_or_ahead_of_the_tree(self):
        for text in ("--", "- -", "-[- -]", "[- -]-", "[- -] -", "- [- -]", "[- -][- -]", "[- -] [- -]", "-a", "a-"):
            self.assert_refused(text)

    def test_three_trees_in_one_pair(self):
        self.assert_refused("[- - -]")
        self.assert_refused("[[- -] - -]")

    def test_brackets_the_wrong_way_round_or_of_another_sort(self):
        for text in ("]- -[", "(- -)", "{- -}", "<- ->", "[- -)", "-] [-", "[- ]-", "[-[ -]", "]- -]"):
            self.assert_refused(text)

    def test_every_sign_that_is_none_of_a_trees(self):
        signs = ["\t", "\n"] + [chr(code) for code in range(ord(" "), ord("~") + 1) if chr(code) != "%"]
        for sign in signs:
            if sign != "-":
                self.assert_refused(sign)
                self.assert_refused("[" + sign + " -]")
                self.assert_refused("[- " + sign + "]")
            self.assert_refused("-" + sign)
            self.assert_refused(sign + "-")
            self.assert_refused("[- -]" + sign)

    def test_python_words_for_a_tree(self):
        for text in ("None", "(None, None)", "()", "0", "nil"):
            self.assert_refused(text)

    def test_every_short_text_of_a_trees_signs(self):
        written = {shown_tree(tree): tree for pairs in range(3) for tree in all_trees(pairs)}
        for length in range(10):
            for signs in itertools.product("-[ ]", repeat=length):
                text = "".join(signs)
                try:
                    tree = read_tree(text)
                except BadText:
                    self.assertNotIn(text, written)
                else:
                    self.assertIn(text, written)
                    self.assertEqual(tree, written[text])

    def test_a_long_text_with_one_sign_taken_out_or_put_twice(self):
        text = shown_tree(bushy_tree(60))
        self.assertEqual(read_tree(text), bushy_tree(60))
        for place in range(len(text)):
            self.assert_refused(text[:place] + text[place + 1:])
            self.assert_refused(text[:place] + text[place] + text[place:])

    def test_a_text_beyond_two_thousand_signs_is_refused_as_bad_alone(self):
        for text in ("-" * 2000, "-" * 2500, "[- -]" * 500, "a" * 2500):
            self.assert_refused(text)


class TestNothingHangsOnEarlierCalls(unittest.TestCase):
    def test_a_refusal_leaves_nothing_behind(self):
        for _ in range(3):
            with self.assertRaises(BadText):
                read_tree("[- [- -]")
            self.assertEqual(read_tree("[- -]"), ONE)
            self.assertEqual(read_tree("-"), None)

    def test_the_same_question_has_the_same_answer(self):
        for _ in range(3):
            for tree, pairs, text in KNOWN:
                self.assertEqual(size(tree), pairs)
                self.assertEqual(shown_tree(tree), text)
                self.assertEqual(read_tree(text), tree)


if __name__ == "__main__":
    unittest.main()
