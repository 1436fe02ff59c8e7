"""The examples of the interface, to the letter."""

import doctest
import pathlib
import unittest

README = pathlib.Path(__file__).resolve().parent.parent / "README.md"

EXAMPLES = {
    "webs": '''
>>> from dartwebs.webs import arrows, is_tree, parts, renamed, turned, turned_all, web_of
>>> web = web_of(3, ((0, 1, 1), (1, 2, 1)))
>>> [web, turned(web, 1), arrows(turned(web, 1)), is_tree(web), is_tree(turned(web, 1))]
[((0, 1, 0), (-1, 0, 1), (0, -1, 0)), ((0, -1, 1), (1, 0, -1), (-1, 1, 0)), ((0, 2, 1), (1, 0, 1), (2, 1, 1)), True, False]
>>> [turned_all(web, (1, 1)) == web, arrows(renamed(web, (2, 0, 1))), parts(web_of(3, ((0, 2, 5),)))]
[True, ((0, 1, 1), (2, 0, 1)), ((0, 2), (1,))]
''',
    "rowtexts": '''
>>> from dartwebs.rowtexts import printed, row_of
>>> text = "a=0 1;a^2[a,2]((a 2))~ ((1))"
>>> [row_of(3, text), printed(text)]
[(0, 1, 0, 1, 0, 1, 2, 1, 0, 2, 2, 1, 0, 1), 'a = 0 1; a^2 [a, 2] (a 2)~ 1']
''',
}


class Examples(unittest.TestCase):
    def check(self, text, name):
        test = doctest.DocTestParser().get_doctest(text, {}, name, name, 0)
        self.assertGreater(len(test.examples), 0)
        report = []
        doctest.DocTestRunner(verbose=False).run(test, out=report.append)
        self.assertEqual("".join(report), "")

    def test_examples_of_the_interface(self):
        for name, text in EXAMPLES.items():
            with self.subTest(name):
                self.check(text, name)

    def test_examples_of_the_readme(self):
        self.check(README.read_text(encoding="utf-8"), "README.md")
