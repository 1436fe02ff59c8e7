"""Points [17] and [18]: roots, and how many numbers and lots come."""

import itertools
import random
import unittest
from math import comb

from dartwebs.classing import class_of, is_finite
from dartwebs.errors import BadWeb, NotFinite, NotTrees
from dartwebs.roots import lots_count, numbers_count, roots
from dartwebs.webs import parts, turned, web_of

from tests.shapes import E_TREE, LOT_COUNTS, OTHER_TREES, ROOT_COUNTS, TREES, beside, behind_turns, fork, path, ring
from tests.shapes import star, webs_of_parts, with_names, with_ways, zeros
from tests.test_classing import ROUND_BOTH_WAYS, SPOILT_WEBS
from tests.test_lots import WEB, some_web
from tests.test_webs import pair, small_webs
from tests.values import check_arguments, in_good_time, outcome, outcome_unchanged, told

NOT_FINITE = told(NotFinite)
NOT_TREES = told(NotTrees)


def square(web, root):
    """What is 1 for the roots of a tree and nothing else of whole numbers but what is above it."""
    near = sum(root[y] * root[z] for y, z in itertools.combinations(range(len(web)), 2) if web[y][z] != 0)
    return sum(many * many for many in root) - near


def plain_roots(web, most=3):
    """All with no integer below 0 for which the square is 1, for at most so great integers."""
    n = len(web)
    return tuple(root for root in itertools.product(range(most + 1), repeat=n) if square(web, root) == 1)


class Arguments(unittest.TestCase):
    def test_webs(self):
        for function in (roots, numbers_count, lots_count):
            check_arguments(self, function, (WEB,), SPOILT_WEBS)
            for web in (None, (), ((0, 1), (1, 0)), pair(1001)):
                self.assertEqual(outcome(function, web), told(BadWeb))


class Roots(unittest.TestCase):
    def check(self, web, wanted):
        self.assertEqual(outcome_unchanged(roots, web), ("value", wanted), web)

    def test_some(self):
        self.check(((0,),), ((1,),))
        self.check(pair(1), ((0, 1), (1, 0), (1, 1)))
        self.check(zeros(2), ((0, 1), (1, 0)))
        self.check(path(3), ((0, 0, 1), (0, 1, 0), (0, 1, 1), (1, 0, 0), (1, 1, 0), (1, 1, 1)))
        self.assertIn((1, 2, 3, 2, 1, 2), roots(E_TREE))
        self.assertIn((1, 2, 1, 1), roots(fork(4)))

    def test_trees_against_their_squares(self):
        chance = random.Random(1701)
        for name, tree in TREES.items():
            for web in (tree, with_names(chance, with_ways(chance, tree))):
                found = roots(web)
                self.assertEqual(len(found), ROOT_COUNTS[name])
                self.check(web, plain_roots(web, 3 if name == "E6" else 2))

    def test_the_rule_leads_from_root_to_root(self):
        for tree in TREES.values():
            found = roots(tree)
            for root in found:
                for x in range(len(tree)):
                    near = sum(root[y] for y in range(len(tree)) if tree[x][y] != 0)
                    other = root[:x] + (near - root[x],) + root[x + 1:]
                    lone = tuple(int(y == x) for y in range(len(tree)))
                    self.assertTrue(other in found or root == lone)

    def test_several_parts(self):
        chance = random.Random(1702)
        for kinds, web in webs_of_parts():
            web = with_names(chance, with_ways(chance, web))
            found = roots(web)
            self.assertEqual(len(found), sum(ROOT_COUNTS[kind] for kind in kinds))
            self.assertEqual(list(found), sorted(set(found)))
            for root in found:
                # A root lies in one part.
                self.assertTrue(any(all(x in part for x in range(len(web)) if root[x]) for part in parts(web)))
        self.check(beside(pair(1), ((0,),)), ((0, 0, 1), (0, 1, 0), (1, 0, 0), (1, 1, 0)))

    def test_what_is_no_tree_of_such_a_kind(self):
        chance = random.Random(1703)
        wrong = [pair(2), pair(-1000), ring(3), ring(4), ring(6), ROUND_BOTH_WAYS, *OTHER_TREES]
        wrong += [web_of(4, ((0, 1, 1), (1, 2, 1), (2, 0, 1), (2, 3, 1))), web_of(3, ((0, 1, 1), (1, 2, 2)))]
        for web in wrong:
            self.assertEqual(outcome_unchanged(roots, web), NOT_TREES, web)
            for n in range(1, 7 - len(web)):
                self.assertEqual(outcome(roots, with_names(chance, beside(web, path(n)))), NOT_TREES)
                self.assertEqual(outcome(roots, with_names(chance, beside(web, zeros(n)))), NOT_TREES)
        self.assertIs(is_finite(ring(3)), True)

    def test_all_small_webs(self):
        for web in itertools.chain(small_webs(3, 2), small_webs(4, 1)):
            arrows = sum(many != 0 for line in web for many in line) // 2
            is_one = arrows == len(web) - len(parts(web)) and max(map(max, web)) < 2
            self.assertEqual(outcome(roots, web), ("value", plain_roots(web, 2)) if is_one else NOT_TREES)


class Counts(unittest.TestCase):
    def check(self, web, kinds):
        numbers = len(web) + sum(ROOT_COUNTS[kind] for kind in kinds)
        lots = 1
        for kind in kinds:
            lots *= LOT_COUNTS[kind]
        self.assertEqual(outcome_unchanged(numbers_count, web), ("value", numbers), web)
        self.assertEqual(outcome_unchanged(lots_count, web), ("value", lots), web)

    def test_trees(self):
        chance = random.Random(1704)
        for name, tree in TREES.items():
            self.check(tree, (name,))
            self.check(with_names(chance, with_ways(chance, tree)), (name,))

    def test_what_the_document_tells(self):
        for n in range(1, 7):
            cuts = [1]
            for _ in range(n + 1):
                cuts.append(sum(first * last for first, last in zip(cuts, cuts[::-1])))
            self.assertEqual(lots_count(path(n)), cuts[n + 1])
            self.assertEqual(numbers_count(path(n)), n + n * (n + 1) // 2)
        for n in range(4, 7):
            self.assertEqual(lots_count(fork(n)) * n, (3 * n - 2) * comb(2 * n - 2, n - 1))
            self.assertEqual(numbers_count(fork(n)), n + n * (n - 1))
        self.assertEqual([lots_count(E_TREE), numbers_count(E_TREE)], [833, 42])

    def test_webs_that_are_no_trees(self):
        chance = random.Random(1705)
        for name, tree in TREES.items():
            for web in class_of(tree):
                if chance.random() < 0.3:
                    self.check(with_names(chance, web), (name,))
        self.check(ring(3), ("A3",))
        self.check(ring(6), ("D6",))

    def test_several_parts(self):
        chance = random.Random(1706)
        for kinds, web in webs_of_parts():
            self.check(web, kinds)
            self.check(with_names(chance, behind_turns(chance, with_ways(chance, web), 7)), kinds)

    def test_not_finite(self):
        for web in (pair(2), ROUND_BOTH_WAYS, star(5), *OTHER_TREES, beside(path(3), pair(2)), pair(1000)):
            self.assertEqual(outcome_unchanged(numbers_count, web), NOT_FINITE)
            self.assertEqual(outcome_unchanged(lots_count, web), NOT_FINITE)

    def test_many_webs_in_good_time(self):
        chance = random.Random(1707)
        with in_good_time():
            for _ in range(300):
                web = some_web(chance, 6, 1, chance.random())
                found = outcome(numbers_count, web)
                self.assertEqual(found[0] == "value", is_finite(web))
                self.assertEqual(outcome(lots_count, turned(web, 3)), outcome(lots_count, web))
