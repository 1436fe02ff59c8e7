"""What holds over the whole program: names go through, and what is told in two ways is told alike."""

import itertools
import random
import unittest

from dartwebs.classing import class_of, is_finite, kind, least_named, paper
from dartwebs.desks import Desk, desk_of
from dartwebs.frames import by_frames, degrees, frame, green_row, greens, inners
from dartwebs.joined import all_lots, all_numbers, round_of
from dartwebs.lots import first_lot, numbers, values, wholes
from dartwebs.polygons import flipped, lengths, ways, web_of_cutting
from dartwebs.roots import lots_count, numbers_count, roots
from dartwebs.rowtexts import row_of
from dartwebs.shares import value
from dartwebs.webs import arrows, parts, renamed, turned, turned_all, web_of

from tests.shapes import TREES, behind_turns, webs_of_parts, with_names, with_ways
from tests.test_classing import has_two, plain_class
from tests.test_frames import some_cases
from tests.test_lots import some_row, some_web
from tests.test_polygons import cuttings
from tests.test_shares import some_shares
from tests.test_webs import small_webs
from tests.values import in_good_time, outcome


def some_order(chance, n):
    order = list(range(n))
    chance.shuffle(order)
    return tuple(order)


def placed(order, row):
    """The same entries, the one at x in the place order[x]."""
    return tuple(row[order.index(x)] for x in range(len(order)))


def sum_with_names(order, one):
    return tuple(sorted((placed(order, powers), many) for powers, many in one))


def lot_with_names(order, lot):
    return placed(order, tuple(sum_with_names(order, one) for one in lot))


def table_with_names(order, table):
    return placed(order, tuple(placed(order, line) for line in table))


class NamesGoThrough(unittest.TestCase):
    def both(self, seed, many, most_turns):
        """Some webs with rows and new names, with the web and the row in these names."""
        chance = random.Random(seed)
        for web, row in some_cases(seed + 1, many, most_turns):
            order = some_order(chance, len(web))
            yield web, row, order, renamed(web, order), tuple(order[x] for x in row)

    def check(self, function, web, row, other, other_row, change):
        found, called = outcome(function, web, row), outcome(function, other, other_row)
        self.assertEqual(found[0], called[0], (function.__name__, web, row))
        if found[0] == "value":
            self.assertEqual(change(found[1]), called[1], (function.__name__, web, row))

    def test_turns_and_numbers(self):
        for web, row, order, other, other_row in self.both(2501, 150, 6):
            self.check(turned_all, web, row, other, other_row, lambda told, order=order: renamed(told, order))
            found, called = outcome(numbers, web, row), outcome(numbers, other, other_row)
            # What comes on the way goes by ascending nodes, so that an error may come for one of them alone.
            if found[0] == "value" and called[0] == "value":
                self.assertEqual(lot_with_names(order, found[1]), called[1])
            found, called = outcome(wholes, web, row), outcome(wholes, other, other_row)
            if found[0] == "value" and called[0] == "value":
                self.assertEqual(placed(order, found[1]), called[1])

    def test_frames(self):
        for web, row, order, other, other_row in self.both(2503, 150, 6):
            self.check(frame, web, row, other, other_row,
                       lambda told, order=order: (renamed(told[0], order), table_with_names(order, told[1])))
            self.check(greens, web, row, other, other_row,
                       lambda told, order=order: tuple(sorted(order[x] for x in told)))
            self.check(degrees, web, row, other, other_row, lambda told, order=order: table_with_names(order, told))
            found, called = outcome(inners, web, row), outcome(inners, other, other_row)
            if found[0] == "value" and called[0] == "value":
                self.assertEqual(lot_with_names(order, found[1]), called[1])

    def test_green_rows(self):
        for web, _, order, other, _ in self.both(2505, 100, 0):
            found, called = green_row(web), green_row(other)
            self.assertEqual(found is None, called is None)
            if found is not None:
                self.assertEqual(len(found), len(called))
                self.assertEqual(greens(other, tuple(order[x] for x in found)), ())
                self.assertLessEqual(called, tuple(order[x] for x in found))

    def test_classes(self):
        for web, _, order, other, _ in self.both(2507, 150, 0):
            self.assertEqual(least_named(other), least_named(web))
            self.assertEqual(outcome(class_of, other), outcome(class_of, web))
            self.assertEqual(outcome(kind, other), outcome(kind, web))
            found, called = paper(web), paper(other)
            self.assertEqual(found[0], called[0])
            if found[0] == "two":
                self.assertEqual(len(found[1]), len(called[1]))
                self.assertTrue(has_two(turned_all(other, tuple(order[x] for x in found[1]))))
            else:
                self.assertEqual(found, called)

    def test_roots_and_all_numbers(self):
        chance = random.Random(2509)
        for _, tree in list(TREES.items()) + list(webs_of_parts()):
            order = some_order(chance, len(tree))
            other = renamed(tree, order)
            self.assertEqual(tuple(sorted(placed(order, root) for root in roots(tree))), roots(other))
            if lots_count(tree) <= 150:
                self.assertEqual(tuple(sorted(sum_with_names(order, one) for one in all_numbers(tree))),
                                 all_numbers(other))
                self.assertEqual(len(all_lots(tree)), len(all_lots(other)))


class ToldInTwoWays(unittest.TestCase):
    def test_numbers_by_frames_and_by_values(self):
        chance = random.Random(2511)
        many = 0
        for web, row in some_cases(2512, 250, 8):
            found = outcome(numbers, web, row)
            if found[0] == "error":
                continue
            many += 1
            other = outcome(by_frames, web, row)
            self.assertTrue(other == found or other[0] == "error")
            n = len(web)
            shares = some_shares(chance, n, 20)
            told_values = outcome(values, web, row, shares)
            if told_values[0] == "value":
                self.assertEqual(told_values[1], tuple(value(n, one, shares) for one in found[1]))
        self.assertGreater(many, 200)

    def test_by_frames_is_numbers_in_finite_classes(self):
        chance = random.Random(2513)
        with in_good_time():
            for tree in TREES.values():
                web = behind_turns(chance, with_names(chance, with_ways(chance, tree)), 6)
                for _ in range(3):
                    row = some_row(chance, len(web), 15)
                    found, other = outcome(numbers, web, row), outcome(by_frames, web, row)
                    if found[0] == "value" and other[0] == "value":
                        self.assertEqual(found, other)

    def test_flips_turns_lengths_and_values(self):
        chance = random.Random(2514)
        for cutting in cuttings(2515, share=0.4):
            n = len(cutting)
            web, shares = web_of_cutting(cutting), some_shares(chance, n, 7)
            size = lengths(cutting, shares)
            row = some_row(chance, n, 9)
            other = cutting
            for x in row:
                other = flipped(other, x)
            self.assertEqual(web_of_cutting(other), turned_all(web, row))
            self.assertEqual(values(web, row, shares), tuple(size[line] for line in other))
            self.assertEqual(wholes(web, row), tuple(ways(cutting, *line) for line in other))
            lot = numbers(web, row)
            self.assertEqual(tuple(value(n, one, shares) for one in lot), tuple(size[line] for line in other))

    def test_all_numbers_of_a_cutting_are_the_lengths(self):
        for cutting in cuttings(2516, 8, 0.3):
            n = len(cutting)
            if n < 6:
                shares = some_shares(random.Random(n), n, 10 ** 6)
                size = lengths(cutting, shares)
                corners = n + 3
                wanted = [share for (a, b), share in size.items() if b - a not in (1, corners - 1)]
                found = [value(n, one, shares) for one in all_numbers(web_of_cutting(cutting))]
                self.assertEqual(sorted(found), sorted(wanted))
                self.assertEqual(len(all_lots(web_of_cutting(cutting))), lots_count(web_of_cutting(cutting)))

    def test_desks_and_row_texts(self):
        chance = random.Random(2517)
        for tree in TREES.values():
            n = len(tree)
            row = some_row(chance, n, 8)
            text = " ".join(map(str, row))
            desk = Desk(tree)
            for x in row_of(n, f"a = {text}; a a~"):
                desk.turn(x)
            self.assertEqual([desk.lot(), desk.web(), desk.is_back()], [first_lot(n), tree, True])
            self.assertEqual(desk_of(desk.text()).row(), row + row[::-1])

    def test_rounds_and_desks(self):
        chance = random.Random(2518)
        for _ in range(30):
            web = some_web(chance, chance.randint(2, 5), 1, 0.6)
            x, y = chance.sample(range(len(web)), 2)
            desk = Desk(web)
            for at in range(round_of(web, x, y)):
                self.assertIs(desk.is_back(), at == 0)
                desk.turn((x, y)[at % 2])
            self.assertIs(desk.is_back(), True)


class FiniteClasses(unittest.TestCase):
    def check(self, web):
        """The class is finite exactly if no web of it has two arrows, exactly if trees are among them."""
        wanted = plain_class(web)
        self.assertEqual(is_finite(web), wanted is not None, web)
        self.assertEqual(outcome(class_of, web)[0] == "value", wanted is not None)
        if wanted is not None:
            self.assertEqual(class_of(web), wanted)
            trees = [one for one in wanted if outcome(roots, one)[0] == "value"]
            self.assertGreater(len(trees), 0)
            for one in trees:
                self.assertEqual(len(roots(one)) + len(web), numbers_count(web))
                self.assertEqual(kind(one), kind(web))
            for one in wanted:
                if one not in trees:
                    self.assertNotEqual(len(arrows(one)), len(one) - len(parts(one)))
        else:
            self.assertEqual(outcome(roots, web)[0], "error")

    def test_small_webs(self):
        for web in itertools.chain(small_webs(1, 1), small_webs(2, 3), small_webs(3, 2)):
            self.check(web)

    def test_all_webs_of_four_nodes(self):
        seen = set()
        for web in small_webs(4, 1):
            if least_named(web) not in seen:
                seen.add(least_named(web))
                self.check(web)
        self.assertEqual(len(seen), 42)

    def test_some_webs_of_five_nodes(self):
        chance = random.Random(2519)
        for _ in range(40):
            self.check(some_web(chance, 5, 1, chance.choice((0.3, 0.4, 0.5))))

    def test_just_finitely_many_numbers_come(self):
        # In other classes numbers go on coming by turns at two nodes with two arrows.
        for web in small_webs(3, 1):
            word, told = paper(web)
            if word == "closed":
                self.assertEqual(len(all_numbers(web)), numbers_count(web))
            else:
                behind = turned_all(web, told)
                x, y = next((y, z) for y, z, many in arrows(behind) if many > 1)
                self.assertIsNone(round_of(behind, x, y))
                row = told + (x, y) * 4
                found = [max(wholes(web, row[:at])) for at in range(len(told) + 2, len(row))]
                self.assertEqual(found, sorted(set(found)))

    def test_a_turn_leads_within_the_class(self):
        chance = random.Random(2520)
        for _ in range(60):
            web = some_web(chance, chance.randint(2, 6), 1, 0.5)
            behind = turned(web, chance.randrange(len(web)))
            self.assertEqual(is_finite(behind), is_finite(web))
            self.assertEqual(outcome(class_of, behind), outcome(class_of, web))
            self.assertEqual(outcome(numbers_count, behind), outcome(numbers_count, web))
            self.assertEqual(outcome(lots_count, web_of(len(web), arrows(behind))), outcome(lots_count, web))
