"""Trees: a bud is None, a pair is a tuple of two trees.

Every walk keeps a list of what is still to come in the place of calling itself, so that nothing hangs on how deep
Python lets calls go.
"""

from errandend.errors import BadText

MOST_PAIRS = 60


def size(tree):
    pairs = 0
    pending = [tree]
    while pending:
        part = pending.pop()
        if part is not None:
            pairs += 1
            pending.extend(part)
    return pairs


def shown_tree(tree):
    written = []
    pending = [tree]
    while pending:
        part = pending.pop()
        if part is None:
            written.append("-")
        elif isinstance(part, str):
            written.append(part)
        else:
            # The last one put there is the first one taken, so a pair's signs and trees go in backwards.
            pending.extend(["]", part[1], " ", part[0], "["])
    return "".join(written)


def read_tree(text):
    # Each closing bracket makes one pair, so a text with more of them is no tree's or a too large tree's.
    if text.count("]") > MOST_PAIRS:
        raise BadText("more than sixty pairs")
    tree = guessed_tree(text)
    # The guess looks at buds and closing brackets alone; every other sign is held to its place here.
    if shown_tree(tree) != text:
        raise BadText("not the text of a tree")
    return tree


def guessed_tree(text):
    found = []
    for sign in text:
        if sign == "-":
            found.append(None)
        elif sign == "]":
            found.append(taken_pair(found))
    if len(found) != 1:
        raise BadText("not one tree")
    return found[0]


def taken_pair(found):
    if len(found) < 2:
        raise BadText("a closing bracket without two trees ahead of it")
    right = found.pop()
    left = found.pop()
    return (left, right)
