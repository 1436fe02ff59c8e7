"""Rows of turns written as texts."""

from dartwebs.checks import MOST_TURNS, check_count, check_text, is_node
from dartwebs.errors import InvalidText, NoSuchNode, TooLong, Twice, Unknown

MOST_SIGNS = 2000
MOST_LETTERS = 8
MOST_DIGITS = 2
MOST_BRACKETS = 30

LETTERS = "abcdefghijklmnopqrstuvwxyz"
DIGITS = "0123456789"
SIGNS = "()[],;=^~"
BLANKS = " \n"

# The kinds of tokens; a sign is a kind of its own.
NAME = "name"
NUMBER = "number"
WRONG = "wrong"
END = "end"


def row_of(n, text):
    """Give the row of turns at the nodes 0 to n - 1 for which the row text stands."""
    check_count(n)
    check_text(text)
    tokens = _tokens_of(text)
    tellings, things = Reader(tokens).whole()
    _check_names(tokens, n)
    told = {}
    for name, inner in tellings:
        told[name] = _row_of_things(inner, told)
    return _row_of_things(things, told)


def printed(text):
    """Give the row text in its one form."""
    check_text(text)
    tokens = _tokens_of(text)
    tellings, things = Reader(tokens).whole()
    _check_names(tokens, None)
    words = [f"{name} = {_printed_things(inner)};" for name, inner in tellings]
    return " ".join(words + [_printed_things(things)])


def _tokens_of(text):
    """Give the triples (kind, word, place) of the words, numbers and signs, and of the end."""
    if len(text) > MOST_SIGNS:
        raise InvalidText(MOST_SIGNS)
    tokens = []
    place = 0
    while place < len(text):
        if text[place] in BLANKS:
            place += 1
        else:
            kind, word = _token_at(text, place)
            tokens.append((kind, word, place))
            place += len(word)
    tokens.append((END, "", len(text)))
    return tokens


def _token_at(text, place):
    """Give the kind and the word of the token that begins at the place."""
    sign = text[place]
    if sign in LETTERS:
        word = _run_of(text, place, LETTERS)
        return (NAME if len(word) <= MOST_LETTERS else WRONG), word
    if sign in DIGITS:
        word = _run_of(text, place, DIGITS)
        is_right = len(word) <= MOST_DIGITS and (word == "0" or word[0] != "0")
        return (NUMBER if is_right else WRONG), word
    return (sign if sign in SIGNS else WRONG), sign


def _run_of(text, place, signs):
    """Give the longest piece of the text from the place on that is of the signs alone."""
    end = place
    while end < len(text) and text[end] in signs:
        end += 1
    return text[place:end]


class Reader:
    """Reads tokens into things; the first token that cannot stand raises InvalidText.

    A thing is a triple (kind, inner, behind): the kind of its first token; the word of a
    number or name, or the list of the lists of things in its brackets; and the list of
    what stands behind it, each a text like "~" or "^2".
    """

    def __init__(self, tokens):
        self.tokens = tokens
        self.at = 0
        self.depth = 0

    def kind(self):
        """Give the kind of the next token."""
        return self.tokens[self.at][0]

    def take(self, wanted):
        """Go over the next token, which must be of the kind, and give its word."""
        kind, word, place = self.tokens[self.at]
        if kind != wanted:
            raise InvalidText(place)
        self.at += 1
        return word

    def whole(self):
        """Read all: the pairs of names and their things, and the things behind them."""
        tellings = []
        while self.kind() == NAME and self.tokens[self.at + 1][0] == "=":
            name = self.take(NAME)
            self.take("=")
            tellings.append((name, self.things()))
            self.take(";")
        things = self.things()
        self.take(END)
        return tellings, things

    def things(self):
        """Read one or more things."""
        found = [self.thing()]
        while self.kind() in (NAME, NUMBER, "(", "["):
            found.append(self.thing())
        return found

    def thing(self):
        """Read one thing and what stands behind it."""
        kind = self.kind()
        if kind == "(":
            inner = self.bracket("(", 1, ")")
        elif kind == "[":
            inner = self.bracket("[", 2, "]")
        elif kind == NAME:
            inner = self.take(NAME)
        else:
            inner = self.take(NUMBER)
        return kind, inner, self.behind()

    def bracket(self, first, many, last):
        """Read so many lists of things in a bracket, parted by commas."""
        # The bound keeps the recursion of the reader low.
        if self.depth == MOST_BRACKETS:
            raise InvalidText(self.tokens[self.at][2])
        self.take(first)
        self.depth += 1
        inner = [self.things()]
        while len(inner) < many:
            self.take(",")
            inner.append(self.things())
        self.take(last)
        self.depth -= 1
        return inner

    def behind(self):
        """Read the powers and signs for backwards behind a thing."""
        found = []
        while self.kind() in ("^", "~"):
            sign = self.take(self.kind())
            if sign == "^":
                sign += self.take(NUMBER)
            found.append(sign)
        return found


def _check_names(tokens, n):
    """Raise the first error of a name or, if n isn't None, of a node, by the order of the text."""
    told = {}
    telling = None
    before = None
    for at, (kind, word, _) in enumerate(tokens):
        if kind == NAME and tokens[at + 1][0] == "=":
            if word in told:
                raise Twice(word)
            telling = word
        elif kind == NAME and word not in told:
            raise Unknown(word)
        elif kind == ";":
            told[telling] = True
        elif kind == NUMBER and before != "^" and n is not None and not is_node(n, int(word)):
            raise NoSuchNode(int(word))
        before = kind


def _row_of_things(things, told):
    """Give the row of things one behind another; told has the rows of the names."""
    row = ()
    for thing in things:
        row = _short(row + _row_of_thing(thing, told))
    return row


def _row_of_thing(thing, told):
    """Give the row of one thing with what stands behind it."""
    kind, inner, behind = thing
    if kind == NUMBER:
        row = (int(inner),)
    elif kind == NAME:
        row = told[inner]
    else:
        rows = [_row_of_things(things, told) for things in inner]
        row = rows[0] if kind == "(" else _short(rows[0] + rows[1] + rows[0][::-1] + rows[1][::-1])
    for sign in behind:
        # Each step is a part of the text, so none may be too long, even if the next one shortens it.
        row = row[::-1] if sign == "~" else _short(row * int(sign[1:]))
    return row


def _short(row):
    """Give the row, which must not be too long."""
    if len(row) > MOST_TURNS:
        raise TooLong(MOST_TURNS)
    return row


def _printed_things(things):
    """Give the one form of things one behind another."""
    return " ".join([_printed_thing(thing) for thing in things])


def _printed_thing(thing):
    """Give the one form of one thing with what stands behind it."""
    kind, inner, behind = thing
    if kind in (NAME, NUMBER):
        core = inner
    elif kind == "(":
        core = _printed_things(inner[0])
        if len(inner[0]) > 1:
            core = f"({core})"
    else:
        core = f"[{_printed_things(inner[0])}, {_printed_things(inner[1])}]"
    return core + "".join(behind)
