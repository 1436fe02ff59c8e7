"""Points [14] to [16]: classes of webs, papers that show whether they are finite, and kinds."""

import itertools
import random
import unittest

from dartwebs.classing import class_of, is_finite, judged, kind, least_named, paper
from dartwebs.errors import BadWeb, NotFinite, TooGreat
from dartwebs.webs import is_web, renamed, turned, turned_all, web_of

from tests.shapes import CLASS_SIZES, E_TREE, OTHER_TREES, TREES, beside, behind_turns, fork, path, ring, star
from tests.shapes import webs_of_parts, with_names, with_ways, zeros
from tests.test_lots import WEB, some_row, some_web
from tests.test_webs import pair, small_webs
from tests.values import ODD_VALUES, check_arguments, in_good_time, outcome, outcome_unchanged, told

NOT_FINITE = told(NotFinite)
SPOILT_WEBS = (((0, 1), (1, 0)), [[0, 1], [-1, 0]], ((0, True), (-1, 0)), pair(1001), ((0, 1), [-1, 0]), zeros(7))
TWO_ARROWS = pair(2)
# A ring with arrows both ways round and a square with a line across are of no finite class.
ROUND_BOTH_WAYS = ring(4, (True, True, False, False))


def plain_least(web):
    return min(renamed(web, order) for order in itertools.permutations(range(len(web))))


def has_two(web):
    return any(many > 1 for line in web for many in line)


def plain_class(web):
    """The webs of the class, each least named; None as soon as one has two arrows somewhere."""
    waiting = [plain_least(web)]
    seen = set(waiting)
    for one in waiting:
        if has_two(one):
            return None
        for x in range(len(one)):
            behind = plain_least(turned(one, x))
            if behind not in seen:
                seen.add(behind)
                waiting.append(behind)
    return tuple(sorted(seen))


def plain_row_to_two(web):
    level = [((), web)]
    while True:
        for row, one in level:
            if has_two(one):
                return row
        level = [(row + (x,), turned(one, x)) for row, one in level for x in range(len(web))]


def check_finite(test, web, wanted):
    """Check all that tells whether the class is finite."""
    test.assertEqual(outcome_unchanged(is_finite, web), ("value", wanted), web)
    word = paper(web)[0]
    test.assertEqual(word, "closed" if wanted else "two")
    test.assertIs(judged(web, paper(web)), True)
    if not wanted:
        for function in (class_of, kind):
            test.assertEqual(outcome_unchanged(function, web), NOT_FINITE)


class Arguments(unittest.TestCase):
    def test_webs(self):
        for function in (least_named, is_finite, class_of, paper, kind):
            check_arguments(self, function, (WEB,), SPOILT_WEBS)

    def test_web_and_paper(self):
        check_arguments(self, judged, (WEB, (("closed", 1), None, None)), SPOILT_WEBS)
        self.assertEqual(outcome(judged, None, ("closed", 1)), told(BadWeb))
        self.assertEqual(outcome(judged, pair(1001), ("two", ())), told(BadWeb))

    def test_what_is_no_finite_class(self):
        for function in (class_of, kind):
            self.assertEqual(outcome_unchanged(function, TWO_ARROWS), NOT_FINITE)


class LeastNamed(unittest.TestCase):
    def check(self, web):
        self.assertEqual(outcome_unchanged(least_named, web), ("value", plain_least(web)), web)

    def test_small_webs(self):
        for web in itertools.chain(small_webs(1, 1), small_webs(2, 3), small_webs(3, 2), small_webs(4, 1)):
            self.check(web)

    def test_some_webs(self):
        chance = random.Random(1401)
        for _ in range(120):
            web = some_web(chance, chance.choice((4, 5, 5, 6)), chance.choice((1, 2, 1000)), chance.random())
            self.check(web)

    def test_webs_that_many_changes_of_names_leave_alone(self):
        ways = (web_of(6, tuple((y, z, 1) for y in range(3) for z in range(3, 6))),
                beside(*(pair(1),) * 3), beside(ring(3), ring(3)), ring(6), ring(6, (True, False) * 3), star(6),
                zeros(6), zeros(1), beside(path(3), path(3)), beside(star(4), zeros(2)), beside(pair(5), ring(4)))
        chance = random.Random(1402)
        with in_good_time():
            for web in ways:
                self.check(web)
                self.check(with_names(chance, web))

    def test_all_names_of_a_web(self):
        chance = random.Random(1403)
        for n in (3, 4, 5):
            for _ in range(4):
                web = some_web(chance, n, 2, 0.7)
                found = least_named(web)
                for order in itertools.permutations(range(n)):
                    self.assertEqual(least_named(renamed(web, order)), found)
                    self.assertLessEqual(found, renamed(web, order))
        for _ in range(30):
            web = some_web(chance, 6, 2, 0.5)
            self.assertEqual(least_named(with_names(chance, web)), least_named(web))
            self.assertEqual(least_named(least_named(web)), least_named(web))

    def test_some(self):
        self.assertEqual(least_named(pair(2)), ((0, -2), (2, 0)))
        self.assertEqual(least_named(path(3)), ((0, -1, 0), (1, 0, -1), (0, 1, 0)))


class IsFinite(unittest.TestCase):
    def test_all_small_webs(self):
        for web in itertools.chain(small_webs(1, 1), small_webs(2, 3), small_webs(3, 2), small_webs(4, 1)):
            self.assertEqual(outcome_unchanged(is_finite, web), ("value", plain_class(web) is not None), web)

    def test_one_node(self):
        check_finite(self, ((0,),), True)

    def test_two_nodes(self):
        for many in range(-3, 4):
            check_finite(self, pair(many), abs(many) < 2)
        for many in (1000, -1000):
            check_finite(self, pair(many), False)

    def test_trees_and_what_comes_of_them(self):
        chance = random.Random(1404)
        for tree in TREES.values():
            for _ in range(4):
                web = with_names(chance, with_ways(chance, tree))
                check_finite(self, web, True)
                check_finite(self, behind_turns(chance, web, 12), True)

    def test_other_trees(self):
        chance = random.Random(1405)
        for tree in OTHER_TREES:
            for _ in range(4):
                web = with_names(chance, with_ways(chance, tree))
                check_finite(self, web, False)

    def test_rings(self):
        for n in range(3, 7):
            for ways in itertools.product((True, False), repeat=n):
                if n < 6 or ways in ((True,) * 6, (False,) * 6) or sum(ways) == 3:
                    check_finite(self, ring(n, ways), len(set(ways)) == 1)

    def test_two_arrows_anywhere(self):
        chance = random.Random(1406)
        for tree in TREES.values():
            for y, z in itertools.permutations(range(len(tree)), 2):
                for many in (2, 1000):
                    table = [list(line) for line in tree]
                    table[y][z], table[z][y] = many, -many
                    check_finite(self, with_names(chance, tuple(map(tuple, table))), False)

    def test_parts(self):
        chance = random.Random(1407)
        for _, web in webs_of_parts():
            check_finite(self, with_names(chance, behind_turns(chance, with_ways(chance, web), 6)), True)
        for wrong in (pair(2), ROUND_BOTH_WAYS, ring(3, (True, True, False)), star(5)):
            for n in range(1, 7 - len(wrong)):
                check_finite(self, with_names(chance, beside(path(n), wrong)), False)
                check_finite(self, with_names(chance, beside(wrong, zeros(n))), False)

    def test_just_those_with_a_tree_in_their_class(self):
        chance = random.Random(1408)
        known = set()
        for web in itertools.chain(TREES.values(), (web for _, web in webs_of_parts())):
            known.update(class_of(web))
        with in_good_time():
            for _ in range(300):
                web = some_web(chance, chance.randint(3, 6), 1, chance.choice((0.3, 0.5, 0.7)))
                self.assertEqual(is_finite(web), least_named(web) in known)


class ClassOf(unittest.TestCase):
    def test_all_small_webs(self):
        for web in itertools.chain(small_webs(1, 1), small_webs(2, 2), small_webs(3, 1), small_webs(4, 1)):
            wanted = plain_class(web)
            wanted = NOT_FINITE if wanted is None else ("value", wanted)
            self.assertEqual(outcome_unchanged(class_of, web), wanted)

    def test_trees(self):
        with in_good_time():
            for name, tree in TREES.items():
                found = class_of(tree)
                self.assertEqual(len(found), CLASS_SIZES[name])
                self.check_form(found, len(tree))

    def check_form(self, found, n):
        self.assertEqual(list(found), sorted(set(found)))
        for web in found:
            self.assertTrue(is_web(web) and len(web) == n)
            self.assertEqual(least_named(web), web)
            self.assertFalse(has_two(web))
            for x in range(n):
                self.assertIn(least_named(turned(web, x)), found)

    def test_the_same_for_each_web_of_the_class(self):
        chance = random.Random(1409)
        for tree in (path(5), fork(5), E_TREE):
            found = class_of(tree)
            for _ in range(8):
                web = with_names(chance, behind_turns(chance, with_ways(chance, tree), chance.randint(0, 9)))
                self.assertEqual(class_of(web), found)
                self.assertIn(least_named(web), found)

    def test_several_parts(self):
        self.assertEqual(class_of(zeros(6)), (zeros(6),))
        self.assertEqual(len(class_of(beside(path(3), path(3)))), 10)
        self.assertEqual(len(class_of(beside(path(4), path(2)))), 6)
        self.assertEqual(len(class_of(beside(*(path(2),) * 3))), 1)
        self.assertEqual(class_of(beside(path(3), path(1))), plain_class(beside(path(1), path(3))))
        self.check_form(class_of(beside(path(3), path(3))), 6)


class Paper(unittest.TestCase):
    def test_closed(self):
        for name, tree in TREES.items():
            self.assertEqual(outcome_unchanged(paper, tree), ("value", ("closed", CLASS_SIZES[name])))
        self.assertEqual(paper(beside(path(3), path(3))), ("closed", 10))
        self.assertEqual(paper(ring(3)), ("closed", 4))

    def test_two_arrows_already(self):
        for web in (pair(2), pair(-1000), beside(path(3), pair(3)), web_of(4, ((2, 1, 2), (0, 1, 1), (3, 0, 1)))):
            self.assertEqual(outcome_unchanged(paper, web), ("value", ("two", ())))

    def test_the_least_of_the_rows_of_fewest_turns(self):
        chance = random.Random(1501)
        webs = [web for web in small_webs(4, 1) if chance.random() < 0.2]
        webs += [some_web(chance, 5, 1, 0.8) for _ in range(60)]
        webs += [ring(5, (True, True, True, False, False)), star(5), beside(star(5), path(1)), ROUND_BOTH_WAYS]
        webs += [with_names(chance, beside(path(2), ROUND_BOTH_WAYS)), with_names(chance, star(5))]
        webs += [beside(ring(3, (True, True, False)), ring(3, (True, True, False)))]
        lengths = []
        for web in webs:
            found = paper(web)
            self.assertIs(judged(web, found), True)
            if found[0] == "two":
                self.assertEqual(found, ("two", plain_row_to_two(web)))
                lengths.append(len(found[1]))
            else:
                self.assertIsNotNone(plain_class(web))
        for many in (1, 2, 3):
            self.assertIn(many, lengths)

    def test_long_ways_in_good_time(self):
        with in_good_time():
            for tree in OTHER_TREES:
                word, row = paper(tree)
                self.assertEqual(word, "two")
                self.assertTrue(has_two(turned_all(tree, row)))
                for at in range(len(row)):
                    self.assertFalse(has_two(turned_all(tree, row[:at])))
            for ways in itertools.product((True, False), repeat=6):
                if sum(ways) in (1, 4, 5):
                    word, row = paper(ring(6, ways))
                    self.assertTrue(has_two(turned_all(ring(6, ways), row)))


class Judged(unittest.TestCase):
    def check(self, web, told_paper, wanted):
        self.assertEqual(outcome_unchanged(judged, web, told_paper), ("value", wanted), (web, told_paper))

    def test_any_value_for_the_paper(self):
        for web in (((0,),), pair(1), pair(2), star(5), path(4)):
            for value in ODD_VALUES:
                self.check(web, value, False)
                for word in ("closed", "two"):
                    right = word == "two" and (web == pair(2) and repr(value) in ("()", "(0,)"))
                    right = right or word == "closed" and web in (((0,),), pair(1)) and repr(value) == "1"
                    self.check(web, (word, value), right)
                    self.check(web, [word, value], False)
                    self.check(web, (value, word), False)

    def test_other_pairs(self):
        for wrong in (("two",), ("two", (), ()), ("Two", ()), ("twos", ()), ("closed", ()), ("", ()), (b"two", ()),
                      (None, ()), ("two", None), ("two", "0"), ("two", [0]), ("two", [])):
            self.check(pair(2), wrong, False)
        self.check(pair(2), ("two", ()), True)
        for wrong in (("closed",), ("closed", 1, 1), ("two", 1), ("closed", (1,)), ("close", 1), ("closed", "1")):
            self.check(pair(1), wrong, False)
        self.check(pair(1), ("closed", 1), True)

    def test_closed(self):
        for web in (((0,),), pair(1), path(3), path(4), fork(4), beside(path(3), path(3))):
            right = len(plain_class(web))
            for many in (right - 1, right + 1, 0, -right, 10 ** 400, True, False, None, str(right), (right,)):
                self.check(web, ("closed", many), False)
            self.check(web, ("closed", right), True)
        for web in (pair(2), star(5), ROUND_BOTH_WAYS):
            for many in (0, 1, 2, 4, 1000):
                self.check(web, ("closed", many), False)

    def test_any_row_to_two_arrows(self):
        chance = random.Random(1502)
        outcomes = []
        for _ in range(300):
            web = some_web(chance, chance.choice((3, 4, 5)), 1, 0.8)
            row = some_row(chance, len(web), chance.randint(0, 5))
            beginnings = []
            behind = web
            for at in range(len(row) + 1):
                beginnings.append(has_two(behind))
                if beginnings[-1]:
                    break
                behind = turned(behind, row[at]) if at < len(row) else behind
            outcomes.append(any(beginnings))
            self.check(web, ("two", row), outcomes[-1])
        self.assertGreater(outcomes.count(True), 50)
        self.assertGreater(outcomes.count(False), 50)

    def test_turns_beyond_are_not_looked_at(self):
        for web, row in ((web_of(3, ((0, 1, 3), (1, 2, 3), (2, 0, 3))), (0, 1, 2) * 66),
                         (web_of(3, ((0, 1, 1000), (1, 2, 1000))), (1,) * 200)):
            self.assertEqual(outcome(turned_all, web, row), told(TooGreat))
            self.check(web, ("two", row), True)
        chance = random.Random(1504)
        far = 0
        for _ in range(60):
            web = some_web(chance, 4, 1, 1)
            row = some_row(chance, 4, 200)
            if outcome(turned_all, web, row) == told(TooGreat):
                far += 1
                self.check(web, ("two", row), True)
        self.assertGreater(far, 5)

    def test_a_beginning_has_two_arrows(self):
        start = web_of(3, ((0, 1, 1), (1, 2, 1), (0, 2, 1)))
        self.assertFalse(has_two(turned_all(start, (1, 1))))
        self.check(start, ("two", (1, 1)), True)

    def test_what_is_no_row(self):
        for web in (pair(2), web_of(3, ((0, 1, 1), (1, 2, 1), (0, 2, 1)))):
            n = len(web)
            self.check(web, ("two", (1,) * 200), True)
            for row in ((1,) * 201, (1, n), (1, -1), (1, True), (1, False), (1, None), (1, "0"), [1], (1, (0,)), "1",
                        (1,) * 200 + (n,), {1: 1}):
                self.check(web, ("two", row), False)

    def test_finite_classes_have_no_row(self):
        chance = random.Random(1503)
        for web in TREES.values():
            for _ in range(5):
                self.check(web, ("two", some_row(chance, len(web), chance.choice((0, 5, 200)))), False)


class Kind(unittest.TestCase):
    def check(self, web, wanted):
        self.assertEqual(outcome_unchanged(kind, web), ("value", wanted), web)

    def test_trees(self):
        chance = random.Random(1601)
        for name, tree in TREES.items():
            self.check(tree, name)
            for _ in range(4):
                self.check(with_names(chance, with_ways(chance, tree)), name)

    def test_what_comes_of_trees(self):
        chance = random.Random(1602)
        for name, tree in TREES.items():
            for web in class_of(tree):
                if chance.random() < 0.4:
                    self.check(with_names(chance, web), name)
        for n in range(4, 7):
            self.check(ring(n), f"D{n}")
        self.check(ring(3), "A3")

    def test_several_parts(self):
        chance = random.Random(1603)
        for kinds, web in webs_of_parts():
            self.assertEqual(list(kinds), sorted(kinds))
            self.check(web, " ".join(kinds))
            self.check(with_names(chance, behind_turns(chance, with_ways(chance, web), 8)), " ".join(kinds))
        self.check(beside(fork(4), path(2)), "A2 D4")
        self.check(beside(path(2), zeros(4)), "A1 A1 A1 A1 A2")

    def test_not_finite(self):
        for web in (pair(2), star(5), ROUND_BOTH_WAYS, *OTHER_TREES, beside(path(4), pair(2))):
            self.assertEqual(outcome_unchanged(kind, web), NOT_FINITE)
