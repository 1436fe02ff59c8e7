"""Point [22]: the desk and its text."""

import random
import unittest

from dartwebs.desks import Desk, desk_of
from dartwebs.errors import BadWeb, InvalidDesk, NoNode, NothingDone, NotText, TooGreat, TooLong
from dartwebs.frames import greens
from dartwebs.lots import first_lot, numbers
from dartwebs.webs import arrows, turned, turned_all, web_of

from tests.shapes import TREES, path, zeros
from tests.test_classing import SPOILT_WEBS
from tests.test_lots import WEB, some_row, some_web
from tests.test_sums import GREAT, LONG
from tests.test_webs import pair
from tests.values import ODD_VALUES, check_arguments, in_good_time, is_int, outcome, outcome_unchanged, told

DONE = told(NothingDone)
TEXT = "nodes 3\narrows 0>1 2>1*12\nturns 1 0\n"


def state(desk):
    """All that a desk tells."""
    return (desk.web(), desk.row(), desk.lot(), outcome(desk.greens), desk.is_back(), desk.text())


def desk_behind(web, row):
    desk = Desk(web)
    for x in row:
        desk.turn(x)
    return desk


def new_desk(web):
    return state(Desk(web))


def turn_of_two(x):
    desk = Desk(pair(1))
    found = outcome(desk.turn, x)
    if found[0] == "error":
        if state(desk) != new_desk(pair(1)):
            raise AssertionError("a turn that raises changed the desk")
        raise found[1]()
    return state(desk)


def read(text):
    return state(desk_of(text))


def plain_text(web, row):
    words = [f"{y}>{z}" if many == 1 else f"{y}>{z}*{many}" for y, z, many in arrows(web)]
    return "".join(" ".join([first] + rest) + "\n" for first, rest in (
        ("nodes", [str(len(web))]), ("arrows", words), ("turns", [str(x) for x in row])))


class Arguments(unittest.TestCase):
    def test_webs(self):
        check_arguments(self, new_desk, (WEB,), SPOILT_WEBS)
        self.assertEqual(outcome(Desk, None), told(BadWeb))

    def test_nodes(self):
        check_arguments(self, turn_of_two, ((1, lambda x: is_int(x) and x in (0, 1), NoNode),), (2, 1.0))

    def test_texts(self):
        right = (TEXT, lambda text: type(text) is str, NotText)
        for value in ODD_VALUES + (b"nodes 1\n", [TEXT], (TEXT,)):
            found = outcome_unchanged(lambda text: read(text), value)
            wanted = told(InvalidDesk, at=0) if type(value) is str else told(NotText)
            self.assertEqual(found, wanted, repr(value)[:200])
        self.assertTrue(right[1](TEXT))

    def test_methods_are_defined_in_the_class(self):
        for name in ("turn", "undo", "web", "row", "lot", "greens", "is_back", "text"):
            self.assertIn(name, vars(Desk))


class Turns(unittest.TestCase):
    def test_against_turns_and_numbers(self):
        chance = random.Random(2201)
        for tree in TREES.values():
            row = some_row(chance, len(tree), 12)
            desk = Desk(tree)
            for at, x in enumerate(row):
                self.assertIsNone(desk.turn(x))
                done = row[:at + 1]
                self.assertEqual(desk.row(), done)
                self.assertEqual(desk.web(), turned_all(tree, done))
                self.assertEqual(desk.lot(), numbers(tree, done))
                self.assertEqual(desk.greens(), greens(tree, done))
                self.assertEqual(desk.is_back(), sorted(numbers(tree, done)) == sorted(first_lot(len(tree))))

    def test_undo(self):
        chance = random.Random(2202)
        for web in list(TREES.values()) + [some_web(chance, 4, 2, 0.6) for _ in range(5)]:
            desk = Desk(web)
            states = [state(desk)]
            for x in some_row(chance, len(web), 6):
                if outcome(desk.turn, x)[0] == "value":
                    states.append(state(desk))
            while len(states) > 1:
                self.assertEqual(state(desk), states.pop())
                self.assertIsNone(desk.undo())
            self.assertEqual(state(desk), states[0])
            for _ in range(2):
                self.assertEqual(outcome(desk.undo), DONE)
                self.assertEqual(state(desk), states[0])

    def test_turn_again_behind_an_undo(self):
        desk = desk_behind(path(3), (0, 1, 2))
        desk.undo()
        desk.undo()
        desk.turn(2)
        self.assertEqual(state(desk), state(desk_behind(path(3), (0, 2))))
        desk.undo()
        desk.undo()
        self.assertEqual(outcome(desk.undo), DONE)
        desk.turn(1)
        self.assertEqual(state(desk), state(desk_behind(path(3), (1,))))

    def test_two_desks_have_nothing_to_do_with_each_other(self):
        one, other = Desk(pair(1)), Desk(pair(1))
        one.turn(0)
        self.assertEqual(state(other), new_desk(pair(1)))
        other.turn(1)
        self.assertEqual([one.row(), other.row()], [(0,), (1,)])

    def test_what_is_handed_out_changes_nothing(self):
        desk = desk_behind(path(3), (0, 1))
        before = state(desk)
        self.assertTrue(all(type(value) is tuple for value in (desk.web(), desk.row(), desk.lot(), desk.greens())))
        row = list(desk.row())
        row.append(7)
        self.assertEqual(state(desk), before)
        kept = desk.row()
        desk.turn(2)
        self.assertEqual(kept, (0, 1))

    def test_no_node(self):
        desk = desk_behind(path(3), (0, 1))
        before = state(desk)
        for x in (3, -1, True, False, None, "0", (0,), [0], 10 ** 400):
            self.assertEqual(outcome(desk.turn, x), told(NoNode))
            self.assertEqual(state(desk), before)

    def test_two_hundred_turns(self):
        desk = desk_behind(pair(1), (0, 1) * 100)
        before = state(desk)
        self.assertEqual(outcome(desk.turn, 2), told(NoNode))
        for x in (0, 1):
            self.assertEqual(outcome(desk.turn, x), told(TooLong, most=200))
            self.assertEqual(state(desk), before)
        desk.undo()
        desk.turn(1)
        self.assertEqual(state(desk), before)
        # The 201st turn is told ahead of what would come by it.
        great = desk_behind(web_of(3, ((0, 1, 40), (1, 2, 40))), (0,) * 200)
        self.assertEqual(outcome(great.turn, 1), told(TooLong, most=200))
        great.undo()
        great.undo()
        self.assertEqual(outcome(great.turn, 1), GREAT)

    def test_too_great(self):
        desk = desk_behind(web_of(3, ((0, 1, 40), (1, 2, 40))), (0, 2))
        before = state(desk)
        self.assertEqual(outcome(desk.turn, 1), GREAT)
        self.assertEqual(state(desk), before)
        desk.turn(0)
        self.assertEqual(desk.row(), (0, 2, 0))
        # The exponents alone are too great.
        desk = desk_behind(pair(32), (0,))
        before = state(desk)
        self.assertEqual(outcome(desk.turn, 1), GREAT)
        self.assertEqual(state(desk), before)

    def test_too_long(self):
        desk = Desk(pair(2))
        many = 0
        while outcome(desk.turn, many % 2)[0] == "value":
            many += 1
        before = state(desk)
        self.assertEqual(before[1], ((0, 1) * 50)[:many])
        self.assertEqual(outcome(desk.turn, many % 2), LONG)
        self.assertEqual(outcome(numbers, pair(2), ((0, 1) * 50)[:many + 1]), LONG)
        self.assertEqual(state(desk), before)
        desk.undo()
        self.assertEqual(desk.lot(), numbers(pair(2), ((0, 1) * 50)[:many - 1]))

    def test_the_number_is_ahead_of_the_web(self):
        web = web_of(3, ((1, 0, 5), (2, 1, 5)))
        desk = desk_behind(web, (1, 0))
        self.assertEqual(outcome(turned, desk.web(), 2), GREAT)
        self.assertEqual(outcome(desk.turn, 2), LONG)

    def test_greens_too_great(self):
        # The numbers and the web are small there, the frame isn't.
        web = web_of(3, ((0, 1, 2), (1, 2, 501)))
        desk = desk_behind(web, (0, 1))
        self.assertEqual(outcome(greens, web, (0, 1)), GREAT)
        before = state(desk)
        self.assertEqual(outcome(desk.greens), GREAT)
        self.assertEqual(state(desk), before)
        desk.turn(1)
        self.assertEqual(outcome(desk.greens), GREAT)
        desk.undo()
        desk.undo()
        self.assertEqual(desk.greens(), (1, 2))

    def test_is_back(self):
        self.assertIs(Desk(path(4)).is_back(), True)
        for web in TREES.values():
            for x, y, many in arrows(web):
                desk = Desk(web)
                for at, node in enumerate((x, y, x, y, x)):
                    desk.turn(node)
                    self.assertIs(desk.is_back(), at == 4)
                self.assertNotEqual(desk.lot(), first_lot(len(web)))
                desk.turn(y)
                self.assertIs(desk.is_back(), False)
        desk = desk_behind(zeros(2), (0, 1, 0))
        self.assertIs(desk.is_back(), False)
        desk.turn(1)
        self.assertIs(desk.is_back(), True)
        desk = desk_behind(pair(2), (0, 1, 0, 1))
        self.assertIs(desk.is_back(), False)


class Texts(unittest.TestCase):
    def test_some(self):
        self.assertEqual(Desk(((0,),)).text(), "nodes 1\narrows\nturns\n")
        self.assertEqual(Desk(pair(-1000)).text(), "nodes 2\narrows 1>0*1000\nturns\n")
        self.assertEqual(desk_behind(pair(1), (1, 0)).text(), "nodes 2\narrows 0>1\nturns 1 0\n")
        web = web_of(6, ((5, 0, 2), (0, 3, 1), (4, 1, 7), (3, 5, 1)))
        self.assertEqual(desk_behind(web, (2, 2)).text(), "nodes 6\narrows 0>3 3>5 4>1*7 5>0*2\nturns 2 2\n")

    def test_the_first_web_is_told(self):
        desk = desk_behind(path(3), (1,))
        self.assertEqual(desk.text(), "nodes 3\narrows 0>1 1>2\nturns 1\n")
        self.assertEqual(arrows(desk.web()), ((0, 2, 1), (1, 0, 1), (2, 1, 1)))

    def test_back_and_forth(self):
        chance = random.Random(2204)
        for _ in range(150):
            n = chance.randint(1, 6)
            web = some_web(chance, n, chance.choice((1, 2, 1000)), chance.random())
            desk = Desk(web)
            for x in some_row(chance, n, chance.randint(0, 5)):
                outcome(desk.turn, x)
            self.assertEqual(desk.text(), plain_text(web, desk.row()))
            other = desk_of(desk.text())
            self.assertEqual(state(other), state(desk))
            while other.row():
                other.undo()
            self.assertEqual(state(other), new_desk(web))

    def test_a_long_row(self):
        with in_good_time():
            desk = desk_behind(path(3), (0, 1) * 100)
            self.assertEqual(state(desk_of(desk.text())), state(desk))


class DeskOf(unittest.TestCase):
    def check(self, text, at):
        self.assertEqual(outcome_unchanged(lambda told_text: read(told_text), text), told(InvalidDesk, at=at), repr(text))

    def test_right_texts(self):
        for text in (TEXT, "nodes 1\narrows\nturns\n", "nodes 6\narrows 5>4*1000\nturns 0 0\n",
                     "nodes 2\narrows 1>0*2\nturns" + " 0" * 200 + "\n", "nodes 3\narrows 0>2 1>0 2>1\nturns\n"):
            self.assertEqual(desk_of(text).text(), text)
        self.assertEqual(desk_of(TEXT).row(), (1, 0))
        self.assertEqual(desk_of(TEXT).web(), turned_all(web_of(3, ((0, 1, 1), (2, 1, 12))), (1, 0)))

    def test_ends_too_early(self):
        self.check("", 0)
        self.check("nodes 2\n", 1)
        self.check("nodes 2\narrows 0>1\n", 2)

    def test_what_stands_behind_the_last_line_end(self):
        self.check("nodes 2", 0)
        self.check("n", 0)
        self.check("nodes 2\narrows 0>1", 1)
        self.check("nodes 2\narrows 0>1\nturns 0", 2)
        self.check("nodes 2\narrows 0>1\nturns 0\nx", 3)
        self.check("nodes 2\narrows 0>1\nturns 0\n ", 3)
        self.check("nodes 2\nx", 1)
        self.check("nodes 2\n ", 1)

    def test_a_line_too_many(self):
        for rest in ("\n", "x\n", "turns\n", "turns 0\n", "\n\n", "\nx", "nodes 2\narrows\nturns\n"):
            self.check("nodes 2\narrows 0>1\nturns 0\n" + rest, 3)
        self.check("\nnodes 2\narrows 0>1\nturns 0\n", 0)
        self.check("nodes 2\n\narrows 0>1\nturns 0\n", 1)
        self.check("nodes 2\narrows 0>1\n\nturns 0\n", 2)

    def test_the_first_line(self):
        for line in ("node 2", "Nodes 2", "nodes", "nodes ", "nodes  2", " nodes 2", "nodes 2 ", "nodes\t2", "nodes 02",
                     "nodes 0", "nodes 7", "nodes -1", "nodes +2", "nodes 2 2", "nodes two", "nodes 2.", "nodes2",
                     "nodes 2\r", "nodes \u0662", "nodes \u00b2", "nodes 10", "nodes " + "9" * 5000, "", "arrows 0>1",
                     "nodes 1_0", "nodes 2,"):
            self.check(line + "\narrows\nturns\n", 0)
            self.check(line + "\nbad\nbad\n", 0)

    def test_the_second_line(self):
        for line in ("arrow", "Arrows", "arrows ", " arrows", "arrows  0>1", "arrows 0>1 ", "arrows 0>1  1>2", "arrows\t0>1",
                     "arrows 0>1\t1>2", "arrows 0>3", "arrows 3>0", "arrows -1>0", "arrows 00>1", "arrows 0>01",
                     "arrows 0>1*1", "arrows 0>1*0", "arrows 0>1*1001", "arrows 0>1*02", "arrows 0>1*", "arrows 0>1*-2",
                     "arrows 0>1**2", "arrows 0>1*2*2", "arrows 0>>1", "arrows 0>1>2", "arrows 0", "arrows >", "arrows 0>",
                     "arrows >1", "arrows *2", "arrows 0>1*2000", "arrows 0>0", "arrows 2>2*2", "arrows 0>1 0>1",
                     "arrows 0>1 0>1*2", "arrows 0>1*2 0>1", "arrows 0>1 1>0", "arrows 1>2 0>1", "arrows 0>2 0>1",
                     "arrows 1>0 0>1", "arrows 0>1,1>2", "arrows 0 > 1", "arrows 0>1 *2", "arrows 0>1x2", "arrows0>1",
                     "arrows 0<1", "arrows 0>1*\u0662", "arrows 0>\u00b9", "arrows 0>1*" + "9" * 5000, "arrows 0>1\r", "",
                     "turns", "arrows 0>1*1_0", "arrows 0-1", "arrows 0>1 x"):
            self.check("nodes 3\n" + line + "\nturns\n", 1)
            self.check("nodes 3\n" + line + "\nbad\n", 1)
            self.check("nodes 3\n" + line, 1)

    def test_the_third_line(self):
        for line in ("turn", "Turns", "turns ", " turns", "turns  0", "turns 0 ", "turns 0  1", "turns\t0", "turns 3",
                     "turns -1", "turns 00", "turns 01", "turns 0 3", "turns 0,1", "turns x", "turns 0 x", "turns0",
                     "turns \u0661", "turns" + " 0" * 201, "turns " + "0" * 5000, "", "turns 0\r", "turns +0", "turns 0\n0",
                     "arrows", "turns 0>1"):
            self.check("nodes 3\narrows 0>1\n" + line + "\n", 2 if line != "turns 0\n0" else 3)

    def test_errors_of_the_turns_come_last(self):
        text = "nodes 3\narrows 0>1*40 1>2*40\nturns 0 1\n"
        self.assertEqual(outcome(desk_of, text), GREAT)
        self.check(text + "x", 3)
        self.check("nodes 3\narrows 0>1*40 1>2*40\nturns 1 3\n", 2)
        self.assertEqual(outcome(desk_of, "nodes 2\narrows 0>1*2\nturns" + " 0 1" * 50 + "\n"), LONG)
        self.check("nodes 2\narrows 0>1*2\nturns" + " 0 1" * 50, 2)
        self.check("nodes 2\narrows 0>1*2\nturns" + " 0 1" * 101 + "\n", 2)
        self.assertEqual(outcome(desk_of, "nodes 2\narrows 0>1*32\nturns 0 1\n"), GREAT)

    def test_single_signs_changed(self):
        # A text that can stand is the text of its own desk.
        chance = random.Random(2205)
        signs = "0123>* \nxnodesarrowsturns"
        for _ in range(1500):
            at = chance.randrange(len(TEXT) + 1)
            text = TEXT[:at] + chance.choice(("", chance.choice(signs))) + TEXT[at + chance.randint(0, 1):]
            found = outcome(desk_of, text)
            if found[0] == "value":
                self.assertEqual(found[1].text(), text)
            else:
                self.assertIn(found[1], (InvalidDesk, TooGreat))
                if found[1] is InvalidDesk:
                    # The lines ahead of the wrong one can stand.
                    right = "".join(line + "\n" for line in text.split("\n")[:found[2]["at"]])
                    self.assertEqual(outcome(desk_of, right)[2:], ({"at": found[2]["at"]},) if found[2]["at"] < 3 else ())
