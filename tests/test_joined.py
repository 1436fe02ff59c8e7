"""Points [18] and [19]: all lots and all numbers that come, and turns at two nodes by turns."""

import itertools
import random
import unittest

from dartwebs.classing import class_of, is_finite
from dartwebs.errors import Alike, BadWeb, NoNode, NotFinite, TooMany
from dartwebs.joined import all_lots, all_numbers, round_of
from dartwebs.lots import first_lot, lot_behind, numbers
from dartwebs.roots import lots_count, numbers_count, roots
from dartwebs.sums import below
from dartwebs.webs import renamed, turned, turned_all, web_of

from tests.shapes import E_TREE, LOT_COUNTS, OTHER_TREES, TREES, beside, behind_turns, fork, path, ring, webs_of_parts
from tests.shapes import with_names, with_ways, zeros
from tests.test_classing import ROUND_BOTH_WAYS, SPOILT_WEBS
from tests.test_lots import WEB, some_row, some_web
from tests.test_webs import pair
from tests.values import check_arguments, in_good_time, is_int, outcome, outcome_unchanged, told

MANY = told(TooMany, most=150)
NOT_FINITE = told(NotFinite)


def plain_lots(web):
    """All lots that come, each as the ascending tuple of its sums, by turning every lot that came."""
    lot = first_lot(len(web))
    seen = {tuple(sorted(lot))}
    waiting = [(web, lot)]
    for web, lot in waiting:
        for x in range(len(web)):
            behind = lot_behind(web, lot, x)
            if tuple(sorted(behind)) not in seen:
                seen.add(tuple(sorted(behind)))
                waiting.append((turned(web, x), behind))
    return tuple(sorted(seen))


def some_finite_webs(seed, most=60):
    """Webs of finite classes, trees or not, with so many lots at most."""
    chance = random.Random(seed)
    trees = list(TREES.values()) + [web for _, web in webs_of_parts()]
    for tree in trees:
        web = with_names(chance, with_ways(chance, tree))
        if lots_count(web) <= most:
            yield web
            yield behind_turns(chance, web, 7)


class Arguments(unittest.TestCase):
    def test_webs(self):
        for function in (all_lots, all_numbers):
            check_arguments(self, function, (WEB,), SPOILT_WEBS)

    def test_a_web_and_two_nodes(self):
        def is_node(web, *rest):
            return is_int(rest[-1]) and 0 <= rest[-1] < len(web)

        check_arguments(self, round_of, (WEB, (0, is_node, NoNode), (1, is_node, NoNode)), (2, 1.0, (0, 1)))

    def test_order_of_errors(self):
        self.assertEqual(outcome(round_of, pair(1001), 5, 5), told(BadWeb))
        for x, y in ((2, 2), (0, 2), (2, 0), (-1, -1), (True, True), (0, True), (True, 0), (None, None), (0, None)):
            self.assertEqual(outcome_unchanged(round_of, pair(1), x, y), told(NoNode))
        for web in (pair(0), pair(1), pair(2), pair(1000)):
            for x in (0, 1):
                self.assertEqual(outcome_unchanged(round_of, web, x, x), told(Alike))
        self.assertEqual(outcome(round_of, ((0,),), 0, 0), told(Alike))


class AllLots(unittest.TestCase):
    def test_one_node(self):
        self.assertEqual(outcome_unchanged(all_lots, ((0,),)), ("value", (((((-1,), 2),),), ((((1,), 1),),))))
        self.assertEqual(all_numbers(((0,),)), ((((-1,), 2),), (((1,), 1),)))

    def test_against_the_plain_way(self):
        for web in some_finite_webs(1801):
            wanted = plain_lots(web)
            self.assertEqual(outcome_unchanged(all_lots, web), ("value", wanted))
            self.assertEqual(outcome_unchanged(all_numbers, web),
                             ("value", tuple(sorted({one for lot in wanted for one in lot}))))

    def test_as_many_as_are_counted(self):
        with in_good_time():
            for web in some_finite_webs(1802, 150):
                lots, told_numbers = all_lots(web), all_numbers(web)
                self.assertEqual(len(lots), lots_count(web))
                self.assertEqual(len(told_numbers), numbers_count(web))
                self.assertEqual(list(lots), sorted(set(lots)))
                self.assertEqual(list(told_numbers), sorted(set(told_numbers)))
                for lot in lots:
                    self.assertEqual(list(lot), sorted(set(lot)))
                    self.assertEqual(len(lot), len(web))
                self.assertIn(tuple(sorted(first_lot(len(web)))), lots)

    def test_lots_behind_rows_are_among_them(self):
        chance = random.Random(1803)
        for web in some_finite_webs(1804):
            lots = all_lots(web)
            for _ in range(3):
                self.assertIn(tuple(sorted(numbers(web, some_row(chance, len(web), 15)))), lots)

    def test_names_and_one_for_each_root(self):
        chance = random.Random(1805)
        trees = [tree for name, tree in TREES.items() if LOT_COUNTS[name] <= 150]
        trees += [web for kinds, web in webs_of_parts() if lots_count(web) <= 150]
        for tree in trees:
            web = with_names(chance, with_ways(chance, tree))
            n = len(web)
            rest = [one for one in all_numbers(web) if one not in first_lot(n)]
            self.assertEqual(len(rest), len(all_numbers(web)) - n)
            self.assertEqual(tuple(sorted(below(n, one) for one in rest)), roots(web))

    def test_names_of_the_web_go_through(self):
        chance = random.Random(1806)
        for web in some_finite_webs(1807, 50):
            n = len(web)
            order = list(range(n))
            chance.shuffle(order)

            def called(one):
                pairs = []
                for powers, many in one:
                    pairs.append((tuple(powers[order.index(x)] for x in range(n)), many))
                return tuple(sorted(pairs))

            wanted = tuple(sorted(called(one) for one in all_numbers(web)))
            self.assertEqual(all_numbers(renamed(web, tuple(order))), wanted)

    def test_not_finite(self):
        for web in (pair(2), ROUND_BOTH_WAYS, *OTHER_TREES, beside(path(2), pair(3)), pair(1000)):
            self.assertEqual(outcome_unchanged(all_lots, web), NOT_FINITE)
            self.assertEqual(outcome_unchanged(all_numbers, web), NOT_FINITE)

    def test_too_many(self):
        chance = random.Random(1808)
        many = [web for _, web in webs_of_parts()] + list(TREES.values()) + [ring(5), ring(6)]
        counts = []
        with in_good_time():
            for tree in many:
                web = with_names(chance, tree)
                counts.append(lots_count(web))
                if counts[-1] > 150:
                    self.assertEqual(outcome_unchanged(all_lots, web), MANY)
                    self.assertEqual(outcome_unchanged(all_numbers, web), MANY)
                else:
                    self.assertEqual(len(all_lots(web)), counts[-1])
                    self.assertEqual(outcome(all_numbers, web)[0], "value")
        # The counts nearest to the bound.
        self.assertIn(140, counts)
        self.assertIn(168, counts)
        self.assertEqual(outcome(all_lots, E_TREE), MANY)
        self.assertEqual(len(all_lots(path(5))), 132)
        self.assertEqual(outcome(all_lots, fork(5)), MANY)

    def test_webs_of_a_class_have_as_many(self):
        for web in class_of(path(4)) + class_of(fork(4)):
            self.assertEqual(len(all_lots(web)), lots_count(web))
            self.assertIs(is_finite(web), True)


class RoundOf(unittest.TestCase):
    def check(self, web, x, y):
        many = abs(web[x][y])
        wanted = {0: 4, 1: 5}.get(many)
        self.assertEqual(outcome_unchanged(round_of, web, x, y), ("value", wanted), (web, x, y))
        return wanted

    def test_some_webs(self):
        chance = random.Random(1901)
        with in_good_time():
            for _ in range(200):
                web = some_web(chance, chance.randint(2, 6), chance.choice((1, 2, 1000)), chance.random())
                for x, y in itertools.permutations(range(len(web)), 2):
                    self.check(web, x, y)

    def test_two_nodes(self):
        for many in (0, 1, -1, 2, -2, 3, 1000, -1000):
            self.check(pair(many), 0, 1)
            self.check(pair(many), 1, 0)

    def test_against_turns(self):
        chance = random.Random(1902)
        tried = []
        for _ in range(40):
            web = some_web(chance, chance.randint(2, 5), 1, chance.random())
            x, y = chance.sample(range(len(web)), 2)
            wanted = round_of(web, x, y)
            row = (x, y) * 4
            first = sorted(first_lot(len(web)))
            back = [many for many in range(1, 6) if sorted(numbers(web, row[:many])) == first]
            self.assertEqual(back[:1], [wanted])
            tried.append(wanted)
        self.assertEqual(set(tried), {4, 5})

    def test_never_back_with_two_arrows(self):
        for web in (pair(2), web_of(3, ((0, 1, 2), (1, 2, 1))), web_of(3, ((0, 1, 3), (2, 0, 1)))):
            first = sorted(first_lot(len(web)))
            for many in range(1, 9):
                found = outcome(numbers, web, ((0, 1) * 5)[:many])
                self.assertTrue(found[0] == "error" or sorted(found[1]) != first)
            self.assertIsNone(round_of(web, 0, 1))

    def test_very_many_arrows_elsewhere(self):
        web = web_of(4, ((0, 1, 1), (1, 2, 1000), (0, 2, 1000), (1, 3, 1000)))
        self.assertEqual(outcome(turned_all, web, (1,))[0], "error")
        for x, y in itertools.permutations(range(4), 2):
            self.check(web, x, y)
        self.assertEqual(round_of(zeros(6), 2, 5), 4)
