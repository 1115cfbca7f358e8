"""An errand's line: how it is written, and how it is read."""

from errandend.errors import BadText

MOST_LETTERS = 8
# As many parameters as an errand may have, and as many sayings as may be sent.
MOST_IN_ROW = 4
MOST_DEEP = 12


def shown_line(errand):
    head = " ".join([errand[0]] + list(errand[1]))
    return head + ": " + shown_saying(errand[2])


def shown_saying(saying):
    # Ready texts and sayings still to be written wait in one list, in the place of calls within calls. The last one
    # put there is the first one taken, so the pieces of a saying go in backwards.
    written = []
    pending = [saying]
    while pending:
        piece = pending.pop()
        if isinstance(piece, str):
            written.append(piece)
        else:
            for inner in reversed(pieces(piece)):
                pending.append(inner)
    return "".join(written)


def pieces(saying):
    kind = saying[0]
    if kind == "name":
        return [saying[1]]
    if kind == "bud":
        return ["-"]
    if kind == "left":
        return ["<", saying[1]]
    if kind == "right":
        return [">", saying[1]]
    if kind == "pair":
        return row_pieces("[", saying[1:], "]")
    if kind == "fork":
        return row_pieces("{", saying[1:], "}")
    return row_pieces(saying[1] + "(", saying[2], ")")


def row_pieces(opening, sayings, closing):
    found = [opening]
    for saying in sayings:
        if len(found) > 1:
            found.append(" ")
        found.append(saying)
    found.append(closing)
    return found


def read_line(text):
    # No saying has a colon in it, so the first one ends the head or the line is none.
    halves = text.partition(": ")
    if halves[1] == "":
        raise BadText("no colon with a blank behind it")
    words = halves[0].split(" ")
    for word in words:
        refuse_unfit_name(word)
    params = tuple(words[1:])
    refuse_unfit_count(params, 1, MOST_IN_ROW)
    reader = SayingReader(halves[2])
    body = reader.read_saying(1)
    reader.refuse_rest()
    return (words[0], params, body)


def refuse_unfit_name(word):
    fit = all([is_letter(sign) for sign in word])
    if not fit or len(word) < 1 or len(word) > MOST_LETTERS:
        raise BadText(f"{word!r} is no name")


def is_letter(sign):
    return "a" <= sign <= "z"


def refuse_unfit_count(row, least, most):
    if len(row) < least or len(row) > most:
        raise BadText("too few or too many in a row")


class SayingReader:
    def __init__(self, text):
        self.text = text
        self.place = 0

    def sign_here(self):
        # A slice, since behind the last sign there is none: then this is the empty text.
        return self.text[self.place:self.place + 1]

    def read_saying(self, level):
        # Refused on the way down already, so that a text of a thousand brackets goes no deeper than a good one.
        if level > MOST_DEEP:
            raise BadText("more than twelve deep")
        sign = self.sign_here()
        if sign not in ("-", "<", ">", "[", "{"):
            return self.read_named(level)
        self.place += 1
        if sign == "-":
            return ("bud",)
        if sign == "<":
            return ("left", self.read_saying(level + 1))
        if sign == ">":
            return ("right", self.read_saying(level + 1))
        if sign == "[":
            return ("pair",) + self.read_row("]", 2, 2, level + 1)
        return ("fork",) + self.read_row("}", 3, 3, level + 1)

    def read_named(self, level):
        word = self.read_word()
        if self.sign_here() != "(":
            return ("name", word)
        self.place += 1
        return ("send", word, self.read_row(")", 1, MOST_IN_ROW, level + 1))

    def read_word(self):
        first = self.place
        while is_letter(self.sign_here()):
            self.place += 1
        word = self.text[first:self.place]
        refuse_unfit_name(word)
        return word

    def read_row(self, closing, least, most, level):
        found = [self.read_saying(level)]
        while self.sign_here() == " ":
            self.place += 1
            found.append(self.read_saying(level))
        if self.sign_here() != closing:
            raise BadText(f"no {closing} where a row of sayings ends")
        self.place += 1
        refuse_unfit_count(found, least, most)
        return tuple(found)

    def refuse_rest(self):
        if self.place < len(self.text):
            raise BadText("something stands behind the body")
