"""Points [20] and [21]: cuttings of polygons, their webs, flips, lengths and ways."""

import itertools
import random
import unittest
from fractions import Fraction

from dartwebs.classing import kind
from dartwebs.errors import BadCutting, BadShares, NoCorner, NoNode
from dartwebs.lots import values, wholes
from dartwebs.polygons import flipped, lengths, ways, web_of_cutting
from dartwebs.webs import is_web, turned

from tests.test_shares import SPOILT_SHARES, right_shares, some_shares
from tests.values import check_arguments, in_good_time, is_int, outcome, outcome_unchanged, told

BAD = told(BadCutting)

SPOILT_CUTTINGS = (
    (),
    [(0, 2)],
    ([0, 2],),
    ((0, 2), [0, 3]),
    ((2, 0),),
    ((0, 2), (3, 0)),
    ((0, 1),),
    ((0, 3),),
    ((0, 2), (0, 4)),
    ((0, 2), (3, 4)),
    ((0, 2), (0, 2)),
    ((0, 2), (1, 3)),
    ((1, 3), (0, 2)),
    ((0, 2), (0, 5)),
    ((0, 4),),
    ((-1, 2),),
    ((0, 2, 3),),
    ((0,),),
    ((),),
    (0, 2),
    ((0, 2), None),
    ((0, "2"),),
    ((0, 2.0),),
    ((False, 2),),
    ((True, 3),),
    ((0, 2), (0, 3), (0, 4), (0, 5), (0, 6), (0, 7), (0, 8)),
    ((0, 2), (0, 3), (0, 4), (0, 5), (0, 6), (0, 6)),
    {(0, 2): 0},
    ((10 ** 400, 2),),
    ((1, 1),),
    ((0, 0),),
)


def right_cutting(value):
    """Whether the value is a cutting, told line by line."""
    if type(value) is not tuple or not 1 <= len(value) <= 6:
        return False
    most = len(value) + 2
    for line in value:
        if type(line) is not tuple or len(line) != 2 or not all(is_int(corner) for corner in line):
            return False
        if not 0 <= line[0] < line[1] <= most or line[1] - line[0] in (1, most):
            return False
    if len(set(value)) < len(value):
        return False
    return not any(one[0] < other[0] < one[1] < other[1] for one in value for other in value)


def all_cuttings(first, last):
    """The lines, as sets, of all ways to cut the polygon of the corners from the first to the last."""
    if last - first < 2:
        return [frozenset()]
    found = []
    for middle in range(first + 1, last):
        sides = {pair for pair in ((first, middle), (middle, last)) if pair[1] - pair[0] > 1}
        for left, right in itertools.product(all_cuttings(first, middle), all_cuttings(middle, last)):
            found.append(left | right | sides)
    return found


def cuttings(seed, most=9, share=1.0):
    """All cuttings of polygons of four to seven corners, and some of more, their lines in any order."""
    chance = random.Random(seed)
    for corners in range(4, most + 1):
        told_lines = all_cuttings(0, corners - 1)
        if corners > 7:
            told_lines = chance.sample(told_lines, 40)
        for lines in told_lines:
            if chance.random() < share:
                lines = sorted(lines)
                chance.shuffle(lines)
                yield tuple(lines)


def triangles(cutting):
    corners = len(cutting) + 3
    sides = set(cutting) | {(a, a + 1) for a in range(corners - 1)} | {(0, corners - 1)}
    return [three for three in itertools.combinations(range(corners), 3)
            if all(pair in sides for pair in itertools.combinations(three, 2))]


def plain_web(cutting):
    """The web, by going round each triangle of the cutting."""
    n = len(cutting)
    table = [[0] * n for _ in range(n)]
    for three in triangles(cutting):
        for at in range(3):
            line = tuple(sorted((three[at], three[(at + 1) % 3])))
            following = tuple(sorted((three[(at + 1) % 3], three[(at + 2) % 3])))
            if line in cutting and following in cutting:
                y, z = cutting.index(line), cutting.index(following)
                table[y][z] += 1
                table[z][y] -= 1
    return tuple(map(tuple, table))


def plain_ways(cutting, a, b):
    """How many ways there are, by trying each unlike choice of triangles."""
    if a == b:
        return 0
    a, b = sorted((a, b))
    between = range(a + 1, b)
    choices = [[three for three in triangles(cutting) if corner in three] for corner in between]
    return sum(len(set(choice)) == len(choice) for choice in itertools.product(*choices))


CUTTING = (((0, 2), (0, 3)), right_cutting, BadCutting)


class Arguments(unittest.TestCase):
    def test_cuttings(self):
        check_arguments(self, web_of_cutting, (CUTTING,), SPOILT_CUTTINGS)
        for value in SPOILT_CUTTINGS:
            self.assertEqual(outcome_unchanged(web_of_cutting, value), BAD, repr(value)[:200])

    def test_a_cutting_and_a_node(self):
        node = (1, lambda cutting, value: is_int(value) and 0 <= value < len(cutting), NoNode)
        check_arguments(self, flipped, (CUTTING, node), SPOILT_CUTTINGS + (2, 1.0))
        self.assertEqual(outcome(flipped, (), 7), BAD)
        for x in (2, -1, True, False, None, "0", (0,)):
            self.assertEqual(outcome_unchanged(flipped, ((0, 2), (0, 3)), x), told(NoNode))

    def test_a_cutting_and_shares(self):
        shares = (((1, 2), (3, 1)), lambda cutting, value: right_shares(len(cutting), value), BadShares)
        check_arguments(self, lengths, (CUTTING, shares), SPOILT_CUTTINGS + SPOILT_SHARES)
        self.assertEqual(outcome(lengths, ((0, 2),), ((1, 1),) * 2), told(BadShares))
        self.assertEqual(outcome(lengths, ((0, 2), (1, 3)), None), BAD)

    def test_a_cutting_and_two_corners(self):
        def is_corner(cutting, *rest):
            return is_int(rest[-1]) and 0 <= rest[-1] < len(cutting) + 3

        check_arguments(self, ways, (CUTTING, (0, is_corner, NoCorner), (3, is_corner, NoCorner)),
                        SPOILT_CUTTINGS + (4, 5, 1.0))
        for a, b in ((5, 0), (0, 5), (-1, 0), (0, -1), (5, 5), (True, 0), (0, True), (True, True), (None, 0), (0, "1")):
            self.assertEqual(outcome_unchanged(ways, ((0, 2), (0, 3)), a, b), told(NoCorner))
        self.assertEqual(outcome(ways, ((0, 2), (1, 3)), 9, 9), BAD)

    def test_all_pairs_of_lines(self):
        lines = list(itertools.product(range(-1, 6), repeat=2))
        for value in itertools.product(lines, repeat=2):
            self.assertEqual(outcome(web_of_cutting, value)[0] == "value", right_cutting(value), value)

    def test_numbers_of_lines(self):
        for many in range(9):
            fan = tuple((0, corner) for corner in range(2, many + 2))
            found = outcome(web_of_cutting, fan)
            self.assertEqual(found == BAD, many in (0, 7, 8))
            self.assertEqual(outcome(web_of_cutting, fan + fan[:1]), BAD)
            self.assertEqual(outcome(web_of_cutting, fan[1:]), BAD)


class Webs(unittest.TestCase):
    def test_some(self):
        self.assertEqual(web_of_cutting(((0, 2),)), ((0,),))
        self.assertEqual(web_of_cutting(((1, 3),)), ((0,),))
        self.assertEqual(web_of_cutting(((0, 2), (0, 3))), ((0, -1), (1, 0)))
        self.assertEqual(web_of_cutting(((0, 3), (0, 2))), ((0, 1), (-1, 0)))
        self.assertEqual(web_of_cutting(((0, 2), (2, 4), (0, 4))), ((0, 1, -1), (-1, 0, 1), (1, -1, 0)))

    def test_all_cuttings(self):
        many = 0
        for cutting in cuttings(2001):
            many += 1
            found = outcome_unchanged(web_of_cutting, cutting)
            self.assertEqual(found, ("value", plain_web(cutting)))
            self.assertTrue(is_web(found[1]))
        self.assertEqual(many, 2 + 5 + 14 + 42 + 40 + 40)

    def test_their_kind(self):
        for cutting in cuttings(2002, share=0.5):
            self.assertEqual(kind(web_of_cutting(cutting)), f"A{len(cutting)}")

    def test_lines_in_any_order(self):
        cutting = ((0, 2), (2, 4), (0, 4), (4, 6))
        web = web_of_cutting(cutting)
        for order in itertools.permutations(range(4)):
            found = web_of_cutting(tuple(cutting[x] for x in order))
            self.assertEqual(found, tuple(tuple(web[y][z] for z in order) for y in order))


class Flipped(unittest.TestCase):
    def test_some(self):
        self.assertEqual(flipped(((0, 2),), 0), ((1, 3),))
        self.assertEqual(flipped(((0, 2), (0, 3)), 0), ((1, 3), (0, 3)))
        self.assertEqual(flipped(((0, 2), (0, 3)), 1), ((0, 2), (2, 4)))

    def test_all_cuttings(self):
        for cutting in cuttings(2003):
            for x in range(len(cutting)):
                found = outcome_unchanged(flipped, cutting, x)
                self.assertEqual(found[0], "value")
                other = found[1]
                self.assertTrue(right_cutting(other))
                self.assertNotEqual(other[x], cutting[x])
                self.assertEqual(other[:x] + other[x + 1:], cutting[:x] + cutting[x + 1:])
                self.assertEqual(web_of_cutting(other), turned(web_of_cutting(cutting), x))
                self.assertEqual(flipped(other, x), cutting)


class Lengths(unittest.TestCase):
    def check(self, cutting, shares):
        found = outcome_unchanged(lengths, cutting, shares)
        self.assertEqual(found[0], "value")
        told_lengths = found[1]
        corners = len(cutting) + 3
        self.assertIs(type(told_lengths), dict)
        self.assertEqual(set(told_lengths), set(itertools.combinations(range(corners), 2)))
        size = {pair: Fraction(*share) for pair, share in told_lengths.items()}
        for pair, share in told_lengths.items():
            self.assertIs(type(share), tuple)
            self.assertTrue(all(is_int(part) for part in share))
            self.assertEqual(share, (size[pair].numerator, size[pair].denominator))
            if pair[1] - pair[0] in (1, corners - 1):
                self.assertEqual(share, (1, 1))
        for line, share in zip(cutting, shares):
            self.assertEqual(told_lengths[line], share)
        for a, b, c, d in itertools.combinations(range(corners), 4):
            self.assertEqual(size[a, c] * size[b, d], size[a, b] * size[c, d] + size[b, c] * size[a, d])
        return told_lengths

    def test_some(self):
        self.assertEqual(self.check(((0, 2),), ((2, 3),)),
                         {(0, 1): (1, 1), (0, 2): (2, 3), (0, 3): (1, 1), (1, 2): (1, 1), (1, 3): (3, 1), (2, 3): (1, 1)})
        self.assertEqual(lengths(((0, 2), (0, 3)), ((1, 1), (1, 1)))[(1, 4)], (3, 1))

    def test_the_rule_for_all_cuttings(self):
        chance = random.Random(2101)
        with in_good_time():
            for cutting in cuttings(2102):
                self.check(cutting, some_shares(chance, len(cutting), chance.choice((1, 4, 30))))

    def test_great_shares(self):
        for cutting in cuttings(2103, 9, 0.1):
            for share in ((10 ** 6, 1), (1, 10 ** 6), (10 ** 6, 999999)):
                self.check(cutting, (share,) * len(cutting))
            self.check(cutting, some_shares(random.Random(2104), len(cutting), 10 ** 6))

    def test_flips_and_turns_tell_the_same(self):
        chance = random.Random(2105)
        for cutting in cuttings(2106, share=0.5):
            n = len(cutting)
            shares = some_shares(chance, n, 9)
            first = lengths(cutting, shares)
            row, other = [], cutting
            for _ in range(6):
                row.append(chance.randrange(n))
                other = flipped(other, row[-1])
                found = values(web_of_cutting(cutting), tuple(row), shares)
                self.assertEqual(found, tuple(first[line] for line in other))
            if all(part <= 10 ** 6 for share in found for part in share):
                self.assertEqual(lengths(other, found), first)


class Ways(unittest.TestCase):
    def test_by_trying_all(self):
        for cutting in cuttings(2107, 8):
            corners = len(cutting) + 3
            unit = lengths(cutting, ((1, 1),) * len(cutting))
            for a, b in itertools.combinations(range(corners), 2):
                found = outcome_unchanged(ways, cutting, a, b)
                self.assertEqual(found, ("value", unit[(a, b)][0]))
                self.assertEqual(unit[(a, b)][1], 1)
                self.assertEqual(ways(cutting, b, a), found[1])
                if corners < 8 or b - a < 5:
                    self.assertEqual(found[1], plain_ways(cutting, a, b))
            for a in range(corners):
                self.assertEqual(ways(cutting, a, a), 0)
                self.assertEqual(ways(cutting, a, (a + 1) % corners), 1)

    def test_some(self):
        cutting = ((0, 2), (0, 3))
        self.assertEqual([ways(cutting, 1, 4), ways(cutting, 4, 1), ways(cutting, 3, 3)], [3, 3, 0])
        self.assertEqual([ways(cutting, 0, 4), ways(cutting, 0, 2), ways(cutting, 1, 3)], [1, 1, 2])

    def test_turns_tell_the_same(self):
        chance = random.Random(2108)
        for cutting in cuttings(2109, share=0.4):
            row, other = (), cutting
            for _ in range(8):
                row += (chance.randrange(len(cutting)),)
                other = flipped(other, row[-1])
            self.assertEqual(wholes(web_of_cutting(cutting), row), tuple(ways(cutting, *line) for line in other))
