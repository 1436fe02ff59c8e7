"""Points [10] to [13]: frames, green rows, degrees, inner sums, and lots told by frames alone."""

import itertools
import random
import unittest

from dartwebs.errors import BadRow, BadWeb
from dartwebs.frames import by_frames, degrees, frame, green_row, greens, inners
from dartwebs.lots import first_lot, numbers
from dartwebs.webs import renamed, turned, turned_all, web_of

from tests.shapes import OTHER_TREES, TREES, path, ring, with_names, with_ways, zeros
from tests.test_lots import ROW, SPOILT_ROWS, WEB, pair, plain_numbers, some_row, some_web
from tests.test_sums import GREAT, LONG, names, plain_over, plain_plus, plain_times, right_sum
from tests.test_webs import by_ways, small_webs
from tests.values import check_arguments, in_good_time, outcome, outcome_unchanged, told

BAD_WEB = told(BadWeb)
BAD_ROW = told(BadRow)
MOST = 1000


def identity(n):
    return tuple(tuple(int(i == x) for x in range(n)) for i in range(n))


def is_beyond(*tables):
    return any(abs(entry) > MOST for table in tables for line in table for entry in line)


def plain_turn(web, table, x):
    """The web and the frame behind a turn, by the signs of what is added."""
    n = len(web)
    found = [list(line) for line in table]
    for i in range(n):
        for z in range(n):
            if table[i][x] > 0 and web[x][z] > 0:
                found[i][z] += table[i][x] * web[x][z]
            elif table[i][x] < 0 and web[x][z] < 0:
                found[i][z] -= table[i][x] * web[x][z]
        found[i][x] = -table[i][x]
    return by_ways(web, x), tuple(map(tuple, found))


def plain_frame(web, row):
    table = identity(len(web))
    for x in row:
        web, table = plain_turn(web, table, x)
        if is_beyond(web, table):
            return GREAT
    return ("value", (web, table))


def plain_greens(table):
    return tuple(x for x in range(len(table)) if not any(line[x] < 0 for line in table))


def plain_green_row(web, most=6):
    """The least green row of fewest turns, by trying all rows in order of their length."""
    level = [((), web, identity(len(web)))]
    for _ in range(most):
        found = []
        for row, one, table in level:
            for x in plain_greens(table):
                behind = plain_turn(one, table, x)
                if not is_beyond(*behind):
                    found.append((row + (x,), *behind))
        red = [row for row, _, table in found if not plain_greens(table)]
        if red:
            return min(red)
        level = found
    return None


def plain_degrees(web, row):
    n = len(web)
    first, table, degree = web, identity(n), identity(n)
    for x in row:
        found = [list(line) for line in degree]
        for i in range(n):
            found[i][x] = -degree[i][x]
            for z in range(n):
                if web[z][x] > 0:
                    found[i][x] += web[z][x] * degree[i][z]
            for j in range(n):
                if table[j][x] > 0:
                    found[i][x] -= table[j][x] * first[i][j]
        degree = tuple(map(tuple, found))
        web, table = plain_turn(web, table, x)
        if is_beyond(web, table, degree):
            return GREAT
    return ("value", degree)


def taken(found):
    """The sum of an outcome; an outcome that is an error is raised past the steps to come."""
    if found[0] == "error":
        raise StopIteration(found)
    return found[1]


def plain_inner(web, table, inner, x):
    n = len(web)
    column = [line[x] for line in table]
    products = [names(*(max(0, power) for power in column)), names(*(max(0, -power) for power in column))]
    for y in range(n):
        if web[y][x] != 0:
            power = names(*(0,) * n)
            for _ in range(abs(web[y][x])):
                power = taken(plain_times(power, inner[y]))
            side = 0 if web[y][x] > 0 else 1
            products[side] = taken(plain_times(products[side], power))
    return taken(plain_over(taken(plain_plus(*products)), inner[x]))


def plain_inners(web, row):
    if plain_frame(web, row) == GREAT:
        return GREAT
    n = len(web)
    table, inner = identity(n), [names(*(0,) * n)] * n
    try:
        for x in row:
            inner[x] = plain_inner(web, table, inner, x)
            web, table = plain_turn(web, table, x)
    except StopIteration as stop:
        return stop.value
    return ("value", tuple(inner))


def plain_by_frames(web, row):
    degree = plain_degrees(web, row)
    inner = plain_inners(web, row)
    if degree[0] == "error" or inner[0] == "error":
        return degree if degree[0] == "error" else inner
    n = len(web)
    lot = []
    for x in range(n):
        table = {}
        for powers, many in inner[1][x]:
            key = tuple(degree[1][i][x] + sum(web[i][j] * powers[j] for j in range(n)) for i in range(n))
            table[key] = table.get(key, 0) + many
        if any(abs(power) > MOST for powers in table for power in powers):
            return GREAT
        lot.append(tuple(sorted(table.items())))
    return ("value", tuple(lot))


def some_cases(seed, many, most_turns, most_nodes=6):
    chance = random.Random(seed)
    for _ in range(many):
        n = chance.randint(1, most_nodes)
        web = some_web(chance, n, chance.choice((1, 1, 2, 3)), chance.choice((0.3, 0.6, 0.9)))
        yield web, some_row(chance, n, chance.randint(0, most_turns))


class Arguments(unittest.TestCase):
    def test_a_web_and_a_row(self):
        for function in (frame, greens, degrees, inners, by_frames):
            check_arguments(self, function, (WEB, ROW), SPOILT_ROWS)
            self.assertEqual(outcome(function, pair(1001), (7,)), BAD_WEB)
            self.assertEqual(outcome(function, pair(1), (0,) * 201), BAD_ROW)
            self.assertEqual(outcome(function, pair(1), (0,) * 200)[0], "value")

    def test_green_row(self):
        check_arguments(self, green_row, (WEB,), (((0, 1), (1, 0)), [[0, 1], [-1, 0]], ((0, True), (-1, 0)), pair(1001)))

    def test_errors_ahead_of_too_great(self):
        great = web_of(3, ((0, 1, 50), (1, 2, 50)))
        for function in (frame, greens, degrees, inners, by_frames):
            self.assertEqual(outcome(function, great, (1, 3)), BAD_ROW)
            self.assertEqual(outcome(function, great, (1, True)), BAD_ROW)
            self.assertEqual(outcome(function, great, (1,) * 201), BAD_ROW)


class Frame(unittest.TestCase):
    def check(self, web, row, wanted):
        self.assertEqual(outcome_unchanged(frame, web, row), wanted)
        self.assertEqual(plain_frame(web, row), wanted)
        colours = wanted if wanted == GREAT else ("value", plain_greens(wanted[1][1]))
        self.assertEqual(outcome_unchanged(greens, web, row), colours)

    def test_no_turns(self):
        for n in range(1, 7):
            self.assertEqual(frame(zeros(n), ()), (zeros(n), identity(n)))
            self.assertEqual(greens(path(n), ()), tuple(range(n)))

    def test_some(self):
        self.check(pair(1), (1,), ("value", (pair(-1), ((1, 0), (0, -1)))))
        self.check(pair(1), (0,), ("value", (pair(-1), ((-1, 1), (0, 1)))))
        self.check(pair(1), (0, 1), ("value", (pair(1), ((0, -1), (1, -1)))))
        self.check(pair(3), (0, 1), ("value", (pair(3), ((8, -3), (3, -1)))))
        self.check(path(3), (1,), ("value", (turned(path(3), 1), ((1, 0, 0), (0, -1, 1), (0, 0, 1)))))
        self.assertEqual(greens(pair(1), (1,)), (0,))
        self.assertEqual(greens(pair(1), (1, 0)), ())

    def test_against_the_rule(self):
        for web, row in some_cases(1001, 400, 8):
            self.check(web, row, plain_frame(web, row))

    def test_two_turns_at_one_node(self):
        for web, row in some_cases(1002, 150, 5):
            wanted = outcome(frame, web, row)
            for x in range(len(web)):
                if wanted[0] == "value" and outcome(frame, web, row + (x,))[0] == "value":
                    self.assertEqual(frame(web, row + (x, x)), wanted[1])

    def test_the_web_is_that_of_turned_all(self):
        for web, row in some_cases(1003, 150, 8):
            found = outcome(frame, web, row)
            if found[0] == "value":
                self.assertEqual(found[1][0], turned_all(web, row))

    def test_no_column_has_both_signs_or_none(self):
        many = 0
        for web, row in some_cases(1004, 300, 12):
            found = outcome(frame, web, row)
            if found[0] == "value":
                many += 1
                for x in range(len(web)):
                    column = [line[x] for line in found[1][1]]
                    self.assertTrue(any(column) and (min(column) >= 0 or max(column) <= 0))
                    self.assertEqual(x in greens(web, row), max(column) > 0)
        self.assertGreater(many, 200)

    def test_names_go_through(self):
        chance = random.Random(1005)
        for web, row in some_cases(1006, 100, 6):
            order = list(range(len(web)))
            chance.shuffle(order)
            found = outcome(frame, web, row)
            other = outcome(frame, renamed(web, tuple(order)), tuple(order[x] for x in row))
            self.assertEqual(found[0], other[0])
            if found[0] == "value":
                self.assertEqual(other[1][0], renamed(found[1][0], tuple(order)))
                for i, x in itertools.product(range(len(web)), repeat=2):
                    self.assertEqual(other[1][1][order[i]][order[x]], found[1][1][i][x])

    def test_too_great_a_web(self):
        # The frame is small there.
        web = web_of(3, ((0, 1, 40), (1, 2, 26)))
        self.check(web, (1,), GREAT)
        self.check(web, (1, 1), GREAT)
        self.check(web, (0, 2, 1, 1), GREAT)
        self.check(web, (0, 2, 0, 2), ("value", (web, identity(3))))
        near = web_of(3, ((0, 1, 40), (1, 2, 25)))
        self.check(near, (1,), ("value", (turned(near, 1), ((1, 0, 0), (0, -1, 25), (0, 0, 1)))))

    def test_too_great_a_frame(self):
        # The web is small there.
        for many, turns in ((32, 2), (11, 3), (3, 8)):
            row = ((0, 1) * 4)[:turns]
            self.assertEqual(outcome(frame, pair(many), row[:-1])[0], "value", many)
            self.check(pair(many), row, GREAT)
            self.check(pair(many), row + row[-1:], GREAT)
            self.check(pair(many), row + row[::-1], GREAT)
        self.check(pair(31), (0, 1), ("value", (pair(31), ((960, -31), (31, -1)))))
        self.check(pair(1000), (0,), ("value", (pair(-1000), ((-1, 1000), (0, 1)))))
        self.check(pair(1000), (0, 0), ("value", (pair(1000), identity(2))))


class GreenRow(unittest.TestCase):
    def check(self, web, wanted):
        self.assertEqual(outcome_unchanged(green_row, web), ("value", wanted))

    def check_row(self, web, row):
        for at, x in enumerate(row):
            self.assertIn(x, greens(web, row[:at]))
        self.assertEqual(greens(web, row), ())

    def test_all_small_webs(self):
        for web in itertools.chain(small_webs(1, 1), small_webs(2, 3), small_webs(3, 2)):
            row = plain_green_row(web)
            self.check(web, row)
            if row is not None:
                self.check_row(web, row)

    def test_some_webs_of_four_and_five(self):
        chance = random.Random(1101)
        lengths = []
        for _ in range(60):
            web = some_web(chance, chance.choice((4, 4, 5)), chance.choice((1, 2)), 0.7)
            row = plain_green_row(web)
            self.check(web, row)
            lengths.append(0 if row is None else len(row))
        for wanted in (0, 4, 5, 6):
            self.assertIn(wanted, lengths)

    def test_never_of_no_turns(self):
        self.check(((0,),), (0,))
        for n in range(1, 7):
            self.check(zeros(n), tuple(range(n)))

    def test_the_least_of_the_rows_of_fewest_turns(self):
        self.check(pair(1), (1, 0))
        self.check(pair(-1), (0, 1))
        self.check(pair(7), (1, 0))
        self.check(ring(3), (0, 1, 2, 0))
        self.check(path(3), (2, 1, 0))
        self.check(web_of(3, ((0, 1, 1), (0, 2, 1))), (1, 2, 0))

    def test_no_rings(self):
        # Each turn is at a node that points to none of those still green.
        chance = random.Random(1102)
        trees = list(TREES.values()) + list(OTHER_TREES)
        webs = [with_names(chance, with_ways(chance, web)) for web in trees for _ in range(3)]
        for n in range(1, 7):
            for _ in range(10):
                triples = [(y, z, chance.randint(1, 3)) for y, z in itertools.combinations(range(n), 2)
                           if chance.random() < 0.6]
                webs.append(with_names(chance, web_of(n, tuple(triples))))
        for web in webs:
            row = green_row(web)
            self.check_row(web, row)
            left = list(range(len(web)))
            wanted = []
            while left:
                wanted.append(min(x for x in left if not any(web[x][y] > 0 for y in left)))
                left.remove(wanted[-1])
            self.assertEqual(row, tuple(wanted))

    def test_behind_it_the_frame_is_minus_a_change_of_names(self):
        chance = random.Random(1103)
        for _ in range(80):
            web = some_web(chance, chance.randint(1, 6), 2, 0.5)
            row = green_row(web)
            if row is not None:
                behind, table = frame(web, row)
                lines = [[-entry for entry in line] for line in table]
                self.assertEqual(sorted(lines), sorted(map(list, identity(len(web)))))
                order = tuple(line.index(1) for line in lines)
                self.assertEqual(renamed(web, order), behind)

    def test_five_and_six_turns_and_none(self):
        chance = random.Random(1104)
        lengths = {n: [] for n in (4, 5, 6)}
        for n in (4, 5, 6):
            for _ in range(150 if n == 4 else 60):
                row = green_row(some_web(chance, n, chance.choice((1, 2)), 0.8))
                lengths[n].append(None if row is None else len(row))
        for n, wanted in ((4, (4, 5, 6, None)), (5, (5, 6, None)), (6, (6, None))):
            for many in wanted:
                self.assertIn(many, lengths[n])
        for many in (2, 3, 50):
            self.check(web_of(3, ((0, 1, many), (1, 2, many), (2, 0, many))), None)

    def test_too_great_turns_are_left_out(self):
        # A turn at 1 would be too great, and there is no way but by it or round it.
        web = web_of(3, ((0, 1, 40), (1, 2, 40)))
        self.assertEqual(outcome(turned, web, 1), GREAT)
        self.check(web, (2, 1, 0))
        for most in (30, 1000):
            chance = random.Random(most)
            for _ in range(40):
                web = some_web(chance, chance.choice((3, 4)), most, 0.7)
                self.check(web, plain_green_row(web))

    def test_webs_of_five_and_six_nodes_in_good_time(self):
        chance = random.Random(1105)
        with in_good_time():
            for _ in range(120):
                row = green_row(some_web(chance, chance.choice((5, 6)), chance.choice((1, 2, 1000)), 0.9))
                self.assertTrue(row is None or len(row) in (5, 6))
            self.check(web_of(6, tuple((x, (x + 1) % 3, 2) for x in range(3)) + ((3, 4, 1), (4, 5, 1))), None)


class Degrees(unittest.TestCase):
    def check(self, web, row):
        wanted = plain_degrees(web, row)
        self.assertEqual(outcome_unchanged(degrees, web, row), wanted)
        return wanted

    def test_some(self):
        self.assertEqual(degrees(pair(1), ()), identity(2))
        self.assertEqual(degrees(pair(1), (0,)), ((-1, 0), (1, 1)))
        self.assertEqual(degrees(pair(1), (1,)), ((1, 0), (0, -1)))
        self.assertEqual(degrees(((0,),), (0,)), ((-1,),))
        self.assertEqual(degrees(pair(2), (0, 1)), ((-1, -2), (2, 3)))

    def test_against_the_rule(self):
        kinds = [self.check(web, row)[0] for web, row in some_cases(1201, 300, 9)]
        self.assertGreater(kinds.count("value"), 200)

    def test_the_frame_times_the_degrees(self):
        for web, row in some_cases(1202, 200, 9):
            found = outcome(degrees, web, row)
            if found[0] == "value":
                n = len(web)
                table = frame(web, row)[1]
                for x, y in itertools.product(range(n), repeat=2):
                    self.assertEqual(sum(found[1][i][x] * table[i][y] for i in range(n)), int(x == y))

    def test_too_great(self):
        # The web alone, the frame, and the degrees alone are beyond the bound.
        self.assertEqual(self.check(web_of(3, ((0, 1, 40), (1, 2, 26))), (1,)), GREAT)
        self.assertEqual(self.check(pair(32), (0, 1)), GREAT)
        self.assertEqual(self.check(pair(32), (0, 1, 1)), GREAT)
        self.assertEqual(self.check(pair(31), (0, 1))[0], "value")
        self.assertEqual(self.check(pair(1000), (0,))[0], "value")
        for many, turns in ((40, 2), (12, 3), (3, 8)):
            row = (0, 1) * 4
            self.assertEqual(self.check(pair(many), row[:turns - 1])[0], "value")
            self.assertEqual(self.check(pair(many), row[:turns]), GREAT)
            self.assertEqual(self.check(pair(many), row[:turns] + row[:turns][::-1]), GREAT)
        self.assertTrue(self.check_alone())

    def check_alone(self):
        """Whether there is a row where only the degrees are beyond the bound, and it is told."""
        chance = random.Random(1203)
        for _ in range(4000):
            web = some_web(chance, chance.choice((3, 4)), 9, 0.9)
            row = some_row(chance, len(web), 4)
            if plain_frame(web, row) != GREAT and plain_degrees(web, row) == GREAT:
                self.assertEqual(outcome_unchanged(degrees, web, row), GREAT)
                self.assertEqual(outcome(frame, web, row)[0], "value")
                return True
        return False


class Inners(unittest.TestCase):
    def check(self, web, row):
        wanted = plain_inners(web, row)
        self.assertEqual(outcome_unchanged(inners, web, row), wanted, (web, row))
        return wanted

    def test_no_turns(self):
        for n in range(1, 7):
            self.assertEqual(inners(path(n), ()), (names(*(0,) * n),) * n)

    def test_some(self):
        one = names(0, 0)
        self.assertEqual(inners(pair(1), (0,)), ((((0, 0), 1), ((1, 0), 1)), one))
        self.assertEqual(inners(pair(-1), (0,)), ((((0, 0), 1), ((1, 0), 1)), one))
        self.assertEqual(inners(pair(1), (0, 1))[1], (((0, 0), 1), ((1, 0), 1), ((1, 1), 1)))
        self.assertEqual(inners(pair(1), (0, 0)), (one, one))
        self.assertEqual(inners(((0,),), (0,)), ((((0,), 1), ((1,), 1)),))

    def test_against_the_rule(self):
        kinds = [self.check(web, row)[0] for web, row in some_cases(1301, 200, 6, 4)]
        self.assertGreater(kinds.count("value"), 120)

    def test_form(self):
        for web, row in some_cases(1302, 120, 7):
            found = outcome(inners, web, row)
            if found[0] == "value":
                for one in found[1]:
                    self.assertTrue(right_sum(len(web), one))
                    self.assertEqual(one[0], ((0,) * len(web), 1))
                    self.assertTrue(all(many > 0 for _, many in one))
                    self.assertTrue(all(power >= 0 for powers, _ in one for power in powers))

    def test_too_great_and_too_long(self):
        self.assertEqual(self.check(web_of(3, ((0, 1, 40), (1, 2, 26))), (1,)), GREAT)
        self.assertEqual(self.check(pair(32), (0, 1)), GREAT)
        many = 0
        while outcome(inners, pair(2), ((0, 1) * 50)[:many + 1])[0] == "value":
            many += 1
        self.assertEqual(self.check(pair(2), ((0, 1) * 50)[:many + 1]), LONG)
        self.assertEqual(outcome(inners, pair(2), (0, 1) * 100), LONG)

    def test_the_frame_of_the_whole_row_is_ahead_of_the_sums(self):
        # At one turn the sum is too long and the frame too great.
        self.assertEqual(outcome(frame, pair(501), (0, 1)), GREAT)
        self.assertEqual(self.check(pair(501), (0, 1)), GREAT)
        self.assertEqual(self.check(pair(1000), (0, 1)), GREAT)
        # The sum of an earlier turn is too long, and the other way round.
        web = web_of(5, ((0, 1, 40), (1, 2, 40), (3, 4, 2)))
        row = (3, 4) * 20
        self.assertEqual(outcome(inners, web, row), LONG)
        self.assertEqual(outcome(inners, web, row + (1,)), GREAT)
        self.assertEqual(outcome(inners, web, (1,) + row), GREAT)
        row = (0, 1) * 4
        many = [outcome(inners, pair(3), row[:at])[0] for at in range(9)].index("error")
        self.assertLess(many, 8)
        self.assertEqual(self.check(pair(3), row[:many]), LONG)
        self.assertEqual(outcome(frame, pair(3), row), GREAT)
        self.assertEqual(self.check(pair(3), row), GREAT)

    def test_long_rows(self):
        with in_good_time():
            for web in TREES.values():
                row = some_row(random.Random(1303), len(web), 60)
                n = len(web)
                self.assertEqual(inners(web, row + row[::-1]), (names(*(0,) * n),) * n)


class ByFrames(unittest.TestCase):
    def check(self, web, row):
        wanted = plain_by_frames(web, row)
        self.assertEqual(outcome_unchanged(by_frames, web, row), wanted, (web, row))
        return wanted

    def test_some(self):
        for n in range(1, 7):
            self.assertEqual(by_frames(path(n), ()), first_lot(n))
        self.assertEqual(by_frames(pair(1), (0,)), ((((-1, 0), 1), ((-1, 1), 1)), names(0, 1)))
        self.assertEqual(by_frames(((0,),), (0,)), (names(-1, many=2),))
        self.assertEqual(by_frames(zeros(2), (1,)), (names(1, 0), names(0, -1, many=2)))

    def test_it_is_numbers(self):
        both = 0
        for web, row in some_cases(1304, 500, 8):
            found, other = outcome(by_frames, web, row), outcome(numbers, web, row)
            if found[0] == "value" and other[0] == "value":
                both += 1
                self.assertEqual(found, other)
        self.assertGreater(both, 400)

    def test_it_is_numbers_for_trees(self):
        chance = random.Random(1305)
        for web in list(TREES.values()) + [ring(n) for n in (3, 4, 5)]:
            for _ in range(5):
                row = some_row(chance, len(web), 30)
                self.assertEqual(by_frames(web, row), numbers(web, row))

    def test_against_the_rule(self):
        for web, row in some_cases(1306, 120, 6, 4):
            self.check(web, row)

    def test_order_of_errors(self):
        # The frame and the degrees of the whole row come first, then the inner sums.
        self.assertEqual(self.check(pair(501), (0, 1)), GREAT)
        web = web_of(5, ((0, 1, 40), (1, 2, 40), (3, 4, 2)))
        row = (3, 4) * 20
        self.assertEqual(outcome(inners, web, row), LONG)
        self.assertEqual(outcome(by_frames, web, row), LONG)
        self.assertEqual(outcome(by_frames, web, row + (1,)), GREAT)
        self.check_degrees_alone_ahead()

    def check_degrees_alone_ahead(self):
        """Degrees that are too great are told ahead of sums that are too long, though the frame is small."""
        chance = random.Random(1310)
        found = 0
        for _ in range(20000):
            web = some_web(chance, chance.choice((3, 4)), 9, 0.9)
            row = some_row(chance, len(web), 4)
            if outcome(degrees, web, row) == GREAT and outcome(frame, web, row)[0] == "value":
                if outcome(inners, web, row) == LONG:
                    found += 1
                    self.assertEqual(outcome(by_frames, web, row), GREAT)
                    if found == 3:
                        break
        self.assertGreater(found, 0)

    def test_too_great_sums(self):
        # Degrees and inner sums are small, the numbers aren't.
        found = []
        chance = random.Random(1307)
        for _ in range(200):
            web = some_web(chance, chance.choice((2, 3)), 40, 0.9)
            row = some_row(chance, len(web), 2)
            if outcome(degrees, web, row)[0] == "value" and outcome(inners, web, row)[0] == "value":
                found.append(self.check(web, row))
        self.assertGreater(found.count(GREAT), 5)
        self.assertGreater(len(found) - found.count(GREAT), 5)

    def test_plain_numbers_too(self):
        for web, row in some_cases(1308, 60, 5, 4):
            found = plain_numbers(web, row)
            if found[0] == "value" and plain_by_frames(web, row)[0] == "value":
                self.assertEqual(by_frames(web, row), found[1])
