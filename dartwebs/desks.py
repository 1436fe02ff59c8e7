"""Desks: a web with its lot, turned and turned back, and its text."""

from dartwebs.checks import MOST_NODES, MOST_TURNS, check_node, check_text
from dartwebs.errors import BadArrows, InvalidDesk, NothingDone, TooLong
from dartwebs.frames import greens_behind
from dartwebs.lots import first_lot, next_lot
from dartwebs.webs import MOST_ARROWS, arrows, check_web, web_behind, web_of


class Desk:
    """A web with its lot, the first one at the beginning, and the turns done."""

    def __init__(self, web):
        check_web(web)
        self._webs = [web]
        self._lots = [first_lot(len(web))]
        self._turns = []

    def turn(self, x):
        """Turn at the node x; if that raises, nothing is done."""
        check_node(len(self._webs[0]), x)
        if len(self._turns) == MOST_TURNS:
            raise TooLong(MOST_TURNS)
        lot = next_lot(self._webs[-1], self._lots[-1], x)
        web = web_behind(self._webs[-1], x)
        self._webs.append(web)
        self._lots.append(lot)
        self._turns.append(x)

    def undo(self):
        """Take back the last turn."""
        if not self._turns:
            raise NothingDone()
        self._webs.pop()
        self._lots.pop()
        self._turns.pop()

    def web(self):
        """Give the web behind the turns."""
        return self._webs[-1]

    def row(self):
        """Give the tuple of the turns not taken back."""
        return tuple(self._turns)

    def lot(self):
        """Give the lot behind the turns."""
        return self._lots[-1]

    def greens(self):
        """Give the ascending tuple of the nodes that are green behind the turns."""
        return greens_behind(self._webs[0], self._turns)

    def is_back(self):
        """Tell whether the lot's sums are, in any order, those of the first lot."""
        return sorted(self._lots[-1]) == sorted(self._lots[0])

    def text(self):
        """Give the text of the first web and the turns."""
        words = [_text_of_arrow(y, z, many) for y, z, many in arrows(self._webs[0])]
        lines = [["nodes", str(len(self._webs[0]))], ["arrows"] + words, ["turns"] + [str(x) for x in self._turns]]
        return "".join([" ".join(line) + "\n" for line in lines])


def _text_of_arrow(y, z, many):
    """Give so many arrows from y to z as a word."""
    return f"{y}>{z}" if many == 1 else f"{y}>{z}*{many}"


def desk_of(text):
    """Give the desk behind the turns that the text of a desk tells."""
    check_text(text)
    lines = text.split("\n")
    n = _count_of(_words_of(lines, 0, "nodes"))
    web = _web_of_words(n, _words_of(lines, 1, "arrows"))
    row = _row_of_words(n, _words_of(lines, 2, "turns"))
    # Nothing may stand behind the last line end.
    if lines[3:] != [""]:
        raise InvalidDesk(3)
    desk = Desk(web)
    for x in row:
        desk.turn(x)
    return desk


def _words_of(lines, at, first):
    """Give the words behind the first one, which must be as told, of a line that has a line end."""
    if at + 1 >= len(lines):
        raise InvalidDesk(at)
    words = lines[at].split(" ")
    if words[0] != first:
        raise InvalidDesk(at)
    return words[1:]


def _count_of(words):
    """Give the number of nodes."""
    if len(words) != 1 or not _is_number(words[0], 1, MOST_NODES):
        raise InvalidDesk(0)
    return int(words[0])


def _is_number(word, least, most):
    """Tell whether the word is a number from the least to the most, without needless zeros."""
    # Python refuses to read numbers of very many digits.
    if not word.isascii() or not word.isdigit() or len(word) > len(str(most)):
        return False
    return str(int(word)) == word and least <= int(word) <= most


def _web_of_words(n, words):
    """Give the web with just the arrows that the words tell, ascending."""
    triples = tuple([_arrow_of(n, word) for word in words])
    try:
        web = web_of(n, triples)
    except BadArrows:
        raise InvalidDesk(1)
    if arrows(web) != triples:
        raise InvalidDesk(1)
    return web


def _arrow_of(n, word):
    """Give the triple of the arrows that the word tells."""
    nodes, _, many = word.partition("*")
    y, _, z = nodes.partition(">")
    many = many or "1"
    if not _is_number(y, 0, n - 1) or not _is_number(z, 0, n - 1) or not _is_number(many, 1, MOST_ARROWS):
        raise InvalidDesk(1)
    triple = int(y), int(z), int(many)
    # Thus one arrow is told in one way only.
    if _text_of_arrow(*triple) != word:
        raise InvalidDesk(1)
    return triple


def _row_of_words(n, words):
    """Give the row of turns that the words tell."""
    if len(words) > MOST_TURNS or not all([_is_number(word, 0, n - 1) for word in words]):
        raise InvalidDesk(2)
    return [int(word) for word in words]
