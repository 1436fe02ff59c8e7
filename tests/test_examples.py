"""The examples of the interface, to the letter."""

import doctest
import pathlib
import unittest

README = pathlib.Path(__file__).resolve().parent.parent / "README.md"

EXAMPLES = {
    "webs": '''
>>> from dartwebs.webs import arrows, is_tree, parts, renamed, turned, turned_all, web_of
>>> web = web_of(3, ((0, 1, 1), (1, 2, 1)))
>>> [web, turned(web, 1), arrows(turned(web, 1)), is_tree(web), is_tree(turned(web, 1))]
[((0, 1, 0), (-1, 0, 1), (0, -1, 0)), ((0, -1, 1), (1, 0, -1), (-1, 1, 0)), ((0, 2, 1), (1, 0, 1), (2, 1, 1)), True, False]
>>> [turned_all(web, (1, 1)) == web, arrows(renamed(web, (2, 0, 1))), parts(web_of(3, ((0, 2, 5),)))]
[True, ((0, 1, 1), (2, 0, 1)), ((0, 2), (1,))]
''',
    "rowtexts": '''
>>> from dartwebs.rowtexts import printed, row_of
>>> text = "a=0 1;a^2[a,2]((a 2))~ ((1))"
>>> [row_of(3, text), printed(text)]
[(0, 1, 0, 1, 0, 1, 2, 1, 0, 2, 2, 1, 0, 1), 'a = 0 1; a^2 [a, 2] (a 2)~ 1']
''',
    "sums": '''
>>> from dartwebs.sums import below, over, plus, sum_text, times
>>> one = plus(2, (((1, 0), 1),), (((0, 1), 1),))
>>> [one, times(2, one, one), over(2, times(2, one, one), one) == one, sum_text(2, times(2, one, one))]
[(((0, 1), 1), ((1, 0), 1)), (((0, 2), 1), ((1, 1), 2), ((2, 0), 1)), True, 'x1^2 + 2*x0*x1 + x0^2']
>>> [below(2, (((-1, 0), 1), ((-1, 1), 1))), sum_text(2, (((-1, 0), 1), ((0, 0), -3))), sum_text(1, ())]
[(1, 0), 'x0^-1 + -3', '0']
''',
    "shares": '''
>>> from dartwebs.shares import value
>>> value(2, (((-1, 0), 1), ((-1, 1), 1)), ((1, 2), (3, 1)))
(8, 1)
''',
    "lots": '''
>>> from dartwebs.lots import first_lot, lot_behind, numbers, values, wholes
>>> web = ((0, 1), (-1, 0))
>>> [numbers(web, (0,)), lot_behind(web, first_lot(2), 0) == numbers(web, (0,)), numbers(web, (0, 1, 0, 1, 0)) == first_lot(2)[::-1]]
[((((-1, 0), 1), ((-1, 1), 1)), (((0, 1), 1),)), True, True]
>>> [wholes(web, (0, 1)), values(web, (0, 1), ((1, 2), (3, 1))), wholes(((0, 2), (-2, 0)), (0, 1, 0, 1))]
[(2, 3), ((8, 1), (3, 1)), (13, 34)]
''',
    "frames": '''
>>> from dartwebs.frames import by_frames, degrees, frame, green_row, greens, inners
>>> web = ((0, 1), (-1, 0))
>>> [frame(web, (1,)), greens(web, (1,)), green_row(web), degrees(web, (0,)), inners(web, (0,))[0]]
[(((0, -1), (1, 0)), ((1, 0), (0, -1))), (0,), (1, 0), ((-1, 0), (1, 1)), (((0, 0), 1), ((1, 0), 1))]
>>> by_frames(web, (0,))
((((-1, 0), 1), ((-1, 1), 1)), (((0, 1), 1),))
''',
    "classing": '''
>>> from dartwebs.classing import class_of, is_finite, judged, kind, least_named, paper
>>> web, two = ((0, 1, 0), (-1, 0, 1), (0, -1, 0)), ((0, 2), (-2, 0))
>>> [len(class_of(web)), paper(web), paper(two), is_finite(two), kind(web), least_named(two)]
[4, ('closed', 4), ('two', ()), False, 'A3', ((0, -2), (2, 0))]
>>> [judged(two, ("two", (0, 1))), judged(web, ("closed", 5)), kind(((0, 0), (0, 0)))]
[True, False, 'A1 A1']
''',
    "roots": '''
>>> from dartwebs.roots import lots_count, numbers_count, roots
>>> [roots(((0, 1), (-1, 0))), numbers_count(((0, 1), (-1, 0))), lots_count(((0, 1), (-1, 0)))]
[((0, 1), (1, 0), (1, 1)), 5, 5]
''',
    "joined": '''
>>> from dartwebs.joined import all_lots, all_numbers, round_of
>>> [len(all_lots(((0, 1), (-1, 0)))), len(all_numbers(((0, 1), (-1, 0)))), round_of(((0, 1), (-1, 0)), 0, 1)]
[5, 5, 5]
>>> [round_of(((0, 0), (0, 0)), 0, 1), round_of(((0, 2), (-2, 0)), 0, 1), all_lots(((0,),))]
[4, None, (((((-1,), 2),),), ((((1,), 1),),))]
''',
    "polygons": '''
>>> from dartwebs.polygons import flipped, lengths, ways, web_of_cutting
>>> cutting = ((0, 2), (0, 3))
>>> [web_of_cutting(cutting), flipped(cutting, 0), ways(cutting, 1, 4), ways(cutting, 3, 3), lengths(cutting, ((1, 1), (1, 1)))[(1, 4)]]
[((0, -1), (1, 0)), ((1, 3), (0, 3)), 3, 0, (3, 1)]
''',
    "desks": '''
>>> from dartwebs.desks import Desk, desk_of
>>> desk = Desk(((0, 1), (-1, 0)))
>>> done = [desk.turn(1), desk.turn(0)]
>>> [desk.web(), desk.row(), desk.greens(), desk.is_back(), desk.text()]
[((0, 1), (-1, 0)), (1, 0), (), False, 'nodes 2\\narrows 0>1\\nturns 1 0\\n']
>>> back = desk.undo()
>>> [desk_of(desk.text()).lot() == desk.lot(), desk.lot()]
[True, ((((1, 0), 1),), (((0, -1), 1), ((1, -1), 1)))]
''',
    "beats": '''
>>> from dartwebs.beats import beat, beats, is_steady, sides, steady_row
>>> from dartwebs.lots import first_lot
>>> web = ((0, 1, 0), (-1, 0, 1), (0, -1, 0))
>>> [sides(web), beat(web), beat(((0, 1), (-1, 0))), beats(web, 12) == first_lot(3)]
[((0, 2), (1,)), 6, 5, True]
>>> four = ((0, 1, -2, 1), (-1, 0, 3, -2), (2, -3, 0, 1), (-1, 2, -1, 0))
>>> [is_steady(four), [top for top, bottom in steady_row(four, ((1, 1),) * 4, 11)]]
[True, [1, 1, 1, 1, 2, 3, 7, 23, 59, 314, 1529]]
''',
}


class Examples(unittest.TestCase):
    def check(self, text, name):
        test = doctest.DocTestParser().get_doctest(text, {}, name, name, 0)
        self.assertGreater(len(test.examples), 0)
        report = []
        doctest.DocTestRunner(verbose=False).run(test, out=report.append)
        self.assertEqual("".join(report), "")

    def test_examples_of_the_interface(self):
        for name, text in EXAMPLES.items():
            with self.subTest(name):
                self.check(text, name)

    def test_examples_of_the_readme(self):
        self.check(README.read_text(encoding="utf-8"), "README.md")
