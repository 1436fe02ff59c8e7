"""Points [4] and [5]: rows as texts, their one form, and their errors in order."""

import itertools
import re
import unittest

from dartwebs.errors import BadCount, InvalidText, NoSuchNode, NotText, TooLong, Twice, Unknown
from dartwebs.rowtexts import printed, row_of

from tests.values import ODD_VALUES, outcome_unchanged, told

# A text, its row for six nodes, and its one form.
TEXTS = (
    ("0", (0,), "0"),
    ("5", (5,), "5"),
    (" \n 3\n \n", (3,), "3"),
    ("0 1 2", (0, 1, 2), "0 1 2"),
    ("0\n1\n\n 2", (0, 1, 2), "0 1 2"),
    ("(0)", (0,), "0"),
    ("(0)1(2)", (0, 1, 2), "0 1 2"),
    ("(0 1)", (0, 1), "(0 1)"),
    ("((0 1))", (0, 1), "(0 1)"),
    ("( ( ( 0   1 ) ) )", (0, 1), "(0 1)"),
    ("((0) ((1)))", (0, 1), "(0 1)"),
    ("((0 1))^2", (0, 1, 0, 1), "(0 1)^2"),
    ("(0)^2", (0, 0), "0^2"),
    ("((0 1)^2)^2", (0, 1) * 4, "(0 1)^2^2"),
    ("((0 1)~)^2", (1, 0, 1, 0), "(0 1)~^2"),
    ("(0^2)~", (0, 0), "0^2~"),
    ("((0 1)^2 2)~", (2, 1, 0, 1, 0), "((0 1)^2 2)~"),
    ("(((0 1) 2))", (0, 1, 2), "((0 1) 2)"),
    ("(0 1)(2)(3 4)", (0, 1, 2, 3, 4), "(0 1) 2 (3 4)"),
    ("[0,1]", (0, 1, 0, 1), "[0, 1]"),
    ("[0 1,2]", (0, 1, 2, 1, 0, 2), "[0 1, 2]"),
    ("[ 0 1\n,\n2 3 ]", (0, 1, 2, 3, 1, 0, 3, 2), "[0 1, 2 3]"),
    ("[(0 1),(2)]", (0, 1, 2, 1, 0, 2), "[(0 1), 2]"),
    ("[0,1]~", (1, 0, 1, 0), "[0, 1]~"),
    ("([0,1 2])", (0, 1, 2, 0, 2, 1), "[0, 1 2]"),
    ("[[0,1],2]", (0, 1, 0, 1, 2, 1, 0, 1, 0, 2), "[[0, 1], 2]"),
    ("([(0 [1,2]),(3)]4)", (0, 1, 2, 1, 2, 3, 2, 1, 2, 1, 0, 3, 4), "([(0 [1, 2]), 3] 4)"),
    ("0^0", (), "0^0"),
    ("0^1", (0,), "0^1"),
    ("(0 1)^0 2", (2,), "(0 1)^0 2"),
    ("(0^0)^99", (), "0^0^99"),
    ("[0^0,1]", (1, 1), "[0^0, 1]"),
    ("(0 1)~", (1, 0), "(0 1)~"),
    ("(0 1)~~", (0, 1), "(0 1)~~"),
    ("(0 1)~^2~~^0^3~", (), "(0 1)~^2~~^0^3~"),
    ("(0 1) ~ ^ 2", (1, 0, 1, 0), "(0 1)~^2"),
    ("(0 1)\n^\n3~", (1, 0) * 3, "(0 1)^3~"),
    ("0^2^3", (0,) * 6, "0^2^3"),
    ("0^23", (0,) * 23, "0^23"),
    ("0^2 3", (0, 0, 3), "0^2 3"),
    ("0^99", (0,) * 99, "0^99"),
    ("0~1", (0, 1), "0~ 1"),
    ("0~(1 2)[3,4]~5", (0, 1, 2, 4, 3, 4, 3, 5), "0~ (1 2) [3, 4]~ 5"),
    ("a=0;a", (0,), "a = 0; a"),
    ("a\n=\n0\n;\na", (0,), "a = 0; a"),
    ("a=0;1", (1,), "a = 0; 1"),
    ("a=(0);(a)", (0,), "a = 0; a"),
    ("a=(0 1);(a)^2", (0, 1, 0, 1), "a = (0 1); a^2"),
    ("a=0 1;a~a", (1, 0, 0, 1), "a = 0 1; a~ a"),
    ("a=0 1;b=a 2;c=[a,b^2]~;c", (0, 1, 2, 0, 1, 2, 0, 1, 2, 1, 0, 2, 1, 0, 1, 0),
     "a = 0 1; b = a 2; c = [a, b^2]~; c"),
    ("a=0^2;b=a^2;c=b^2;c c", (0,) * 16, "a = 0^2; b = a^2; c = b^2; c c"),
    ("abcdefgh=1;abcdefg=2;abcdefgh abcdefg", (1, 2), "abcdefgh = 1; abcdefg = 2; abcdefgh abcdefg"),
    ("z=1;a=z;a2z", (1, 2, 1), "z = 1; a = z; a 2 z"),
    ("a=0;2a", (2, 0), "a = 0; 2 a"),
    ("a=1;2^3a", (2, 2, 2, 1), "a = 1; 2^3 a"),
)

SYNTAX_PLACES = (
    # What the text lacks at its end.
    ("", 0), (" ", 1), (" \n ", 3), ("(", 1), ("(0", 2), ("[", 1), ("[0", 2), ("[0,", 3), ("[0,1", 4), ("0^", 2),
    ("0^ \n", 4), ("a=", 2), ("a=0", 3), ("a=0;", 4), ("a=0; ", 5), ("a=0;b=1;", 8), ("((0)", 4),
    ("a=[0,1]", 7), ("0 (", 3),
    # Signs that cannot stand.
    (")", 0), ("]", 0), (",", 0), (";", 0), ("=", 0), ("^", 0), ("~", 0), ("()", 1), ("[]", 1), ("[,0]", 1),
    ("[0]", 2), ("[0,]", 3), ("[0,1,2]", 4), ("[0;1]", 2), ("(0,1)", 2), ("(0]", 2), ("[0,1)", 4), ("[0)", 2),
    ("0)", 1), ("0 ]", 2), ("0,1", 1), ("0;", 1), ("0;1", 1), ("0=1", 1), ("0=1;0", 1), ("a b=0;0", 3),
    ("(a=0;a)", 2), ("a=b=0;a", 3), ("a=0;;a", 4), ("a==0;a", 2), ("a=;a", 2), ("a=0 b=1;a", 5), ("a;", 1),
    ("a=0;a;", 5), ("a=0;a b=1", 7), ("0^^2", 2), ("0^~", 2), ("0^a", 2), ("0^(1)", 2), ("0~~^~", 4), ("(~0)", 1),
    ("(^2)", 1), ("a=0,1;a", 3), ("a=(0;1);a", 4), ("a~=0;a", 2), ("[a=0;a,1]", 2),
    # Signs that stand nowhere.
    ("%", 0), ("0 .1", 2), ("0\t1", 1), ("0\r\n1", 1), ("-1", 0), ("a_b", 1), ("0\u00e9", 1), ("\u0661", 0), ("\u00b2", 0),
    ("0\u00a01", 1), ("0 \ud800", 2), ("0\x00", 1), ("{0}", 0), ("0 # 1", 2), ("0^\u0662", 2),
    # Capital letters.
    ("A", 0), ("a=0;A", 4), ("aB=0;a", 1), ("0 Z 1", 2),
    # Words and numbers that are too long, have needless zeros, or run together.
    ("abcdefghi", 0), ("0 abcdefghi=0;0", 2), ("abcdefgh=0;abcdefghabcdefgh", 11), ("0 100", 2), ("100", 0),
    ("0^100", 2), ("999999", 0), ("00", 0), ("01", 0), ("0 007", 2), ("0^00", 2), ("0^02", 2), ("0 1 010 )", 4),
    ("1" * 1999, 0), ("a" * 2000, 0),
    # The first of several.
    ("0 ) ( ]", 2), ("( 100 A", 2), ("A 100", 0), ("0^ A", 3), ("(0 A", 3),
)


def tightened(pieces):
    """The pieces with a blank only where two words, or two numbers, would run together."""
    text = ""
    for piece in pieces:
        both = text[-1:] + piece[:1]
        text += (" " if len(both) == 2 and (both.isalpha() or both.isdigit()) else "") + piece
    return text


def bracketed(many, core):
    """The core within so many brackets of both kinds, by turns from the inside."""
    for k in range(many):
        core = f"({core})" if k % 2 else f"[{core},0^0]"
    return core


class Rows(unittest.TestCase):
    def test_rows(self):
        for text, row, _ in TEXTS:
            self.assertEqual(outcome_unchanged(row_of, 6, text), ("value", row), text)

    def test_one_form(self):
        for text, _, form in TEXTS:
            self.assertEqual(outcome_unchanged(printed, text), ("value", form), text)

    def test_the_form_keeps_itself_and_the_row(self):
        for _, row, form in TEXTS:
            self.assertEqual(printed(form), form)
            self.assertEqual(row_of(6, form), row)

    def test_blanks_in_every_place(self):
        for text, row, form in TEXTS:
            pieces = re.findall("[a-z]+|[0-9]+|[^ \n]", text)
            for between in (" ", "\n", " \n  \n"):
                wide = between + between.join(pieces) + between
                self.assertEqual(row_of(6, wide), row, wide)
                self.assertEqual(printed(wide), form, wide)

    def test_no_blank_that_need_not_stand(self):
        for text, row, form in TEXTS:
            tight = tightened(re.findall("[a-z]+|[0-9]+|[^ \n]", text))
            self.assertEqual(row_of(6, tight), row, tight)
            self.assertEqual(printed(tight), form, tight)

    def test_nodes(self):
        for n in range(1, 7):
            text = " ".join(str(x) for x in range(n))
            self.assertEqual(row_of(n, text), tuple(range(n)))
            self.assertEqual(outcome_unchanged(row_of, n, f"{text} {n}"), told(NoSuchNode, value=n))


class Arguments(unittest.TestCase):
    def test_counts(self):
        for value in ODD_VALUES + (6, 8, 1.0):
            is_count = isinstance(value, int) and not isinstance(value, bool) and 1 <= value <= 6
            wanted = ("value", (0,)) if is_count else told(BadCount)
            self.assertEqual(outcome_unchanged(row_of, value, "0"), wanted, repr(value))

    def test_count_ahead_of_the_text(self):
        for n in (0, 7, True, None, "1"):
            for text in (None, b"0", "", ")", "a", "9", "0^99^99", "a=0;a=0;a", "0" * 2001):
                self.assertEqual(outcome_unchanged(row_of, n, text), told(BadCount), (n, text))

    def test_texts(self):
        for value in ODD_VALUES + (b"0", 1.0):
            if not isinstance(value, str):
                self.assertEqual(outcome_unchanged(row_of, 1, value), told(NotText), repr(value))
                self.assertEqual(outcome_unchanged(printed, value), told(NotText), repr(value))
        self.assertEqual(outcome_unchanged(row_of, 1, "\x00\u00e9\U0001f300\ud800"), told(InvalidText, place=0))


class Syntax(unittest.TestCase):
    def check(self, text, place):
        self.assertEqual(outcome_unchanged(row_of, 6, text), told(InvalidText, place=place), text[:50])
        self.assertEqual(outcome_unchanged(printed, text), told(InvalidText, place=place), text[:50])

    def test_places(self):
        for text, place in SYNTAX_PLACES:
            self.check(text, place)

    def test_long_texts(self):
        self.assertEqual(row_of(1, "0" + " " * 1999), (0,))
        self.assertEqual(printed("\n" * 1999 + "0"), "0")
        self.assertEqual(row_of(1, "(0^0)" * 400), ())
        self.check(" " * 2000, 2000)
        self.check("(0)" * 666 + "0)", 1999)
        for text in ("0" + " " * 2000, " " * 2001, ")" * 2001, "A" * 5000, "0" * 2001, "(" * 3000, "a " * 1001):
            self.check(text, 2000)

    def test_brackets_within_others(self):
        for many in (1, 29, 30):
            self.assertEqual(row_of(1, "(" * many + "0" + ")" * many), (0,))
            self.assertEqual(printed("(" * many + "0" + ")" * many), "0")
        for many in (31, 32, 33, 900):
            self.check("(" * many + "0" + ")" * many, 30)
            self.check("[" * many + "0", 30)
        self.check("0 " + "(" * 31, 32)
        self.check("a=" + "(" * 30 + "[0,0]", 32)
        self.assertEqual(row_of(1, "(" * 30 + "0" + ")" * 30 + "(" * 30 + "0" + ")" * 30), (0, 0))

    def test_brackets_of_both_kinds(self):
        for many in (29, 30):
            self.assertEqual(row_of(2, bracketed(many, "0^0")), ())
        self.check(bracketed(31, "0^0"), 30)
        self.check(bracketed(30, "(0)"), 30)
        self.check(bracketed(30, "0 [0,0]"), 32)

    def test_depth_goes_down_behind_a_bracket(self):
        self.assertEqual(row_of(1, "(" * 29 + "(0)[0,0](0 0)" + ")" * 29), (0,) * 7)
        self.check("(" * 29 + "(0)[0,(0)]" + ")" * 29, 35)
        self.check("(" * 30 + "0(0)" + ")" * 30, 31)
        self.check("(" * 29 + "[0,0 [0,0]]" + ")" * 29, 34)

    def test_all_short_texts(self):
        for pieces in itertools.chain.from_iterable(
                itertools.product("a0=;()[],^~", repeat=many) for many in range(5)):
            text = " ".join(pieces)
            found = outcome_unchanged(printed, text)
            is_right = found[0] == "value" or found[1] in (Twice, Unknown)
            self.assertEqual(is_right, reduces("".join(pieces)), text)


def reduces(text):
    """Whether the pieces, each a single sign, are a row text: by folding each thing to one t."""
    before = None
    text = re.sub("(?:^|(?<=;))a=", "N", text)
    text = text.replace("^0", "p").replace("^", "?").replace("a", "t").replace("0", "t")
    while text != before:
        before = text
        text = re.sub(r"t[p~]|tt|\(t\)|\[t,t\]", "t", text)
    return re.fullmatch("(?:Nt;)*t", text) is not None


class Names(unittest.TestCase):
    def check(self, text, wanted):
        self.assertEqual(outcome_unchanged(row_of, 6, text), wanted, text)
        self.assertEqual(outcome_unchanged(printed, text), wanted, text)

    def test_twice(self):
        self.check("a=0;a=0;a", told(Twice, name="a"))
        self.check("a=0;b=1;a=b;0", told(Twice, name="a"))
        self.check("a=0;a=a;a", told(Twice, name="a"))
        self.check("abc=0;ab=1;abc=2;ab=3;0", told(Twice, name="abc"))

    def test_unknown(self):
        self.check("a", told(Unknown, name="a"))
        self.check("a=0;b", told(Unknown, name="b"))
        self.check("a=0;ab", told(Unknown, name="ab"))
        self.check("0([1,(a b)])", told(Unknown, name="a"))
        self.check("a^0", told(Unknown, name="a"))

    def test_used_inside_its_own_telling(self):
        self.check("a=a;a", told(Unknown, name="a"))
        self.check("a=0 [1,a~];0", told(Unknown, name="a"))

    def test_told_only_later(self):
        self.check("b=a;a=0;b", told(Unknown, name="a"))
        self.check("a=b;b=a;a", told(Unknown, name="b"))

    def test_by_the_order_of_the_text(self):
        self.check("a=0;a=b;a", told(Twice, name="a"))
        self.check("a=b;a=0;a", told(Unknown, name="b"))
        self.check("a=0;c a", told(Unknown, name="c"))

    def test_nodes(self):
        for text, value in (("6", 6), ("99", 99), ("0 (1 [2,17])", 17), ("a=7;0", 7), ("a=8;a=9;b", 8), ("6 7", 6),
                            ("(9)^0", 9), ("9^0", 9), ("0^9 8", 8), ("6^9", 6)):
            self.assertEqual(outcome_unchanged(row_of, 6, text), told(NoSuchNode, value=value), text)
        self.assertEqual(printed("a=7;99 a"), "a = 7; 99 a")

    def test_no_node_behind_a_power(self):
        self.assertEqual(row_of(1, "0^1"), (0,))
        self.assertEqual(row_of(1, "0^99"), (0,) * 99)
        self.assertEqual(row_of(1, "0^ 7~^\n9"), (0,) * 63)

    def test_nodes_and_names_by_the_order_of_the_text(self):
        for text, wanted in (
                ("6 b", told(NoSuchNode, value=6)), ("b 6", told(Unknown, name="b")),
                ("a=6;a=0;a", told(NoSuchNode, value=6)), ("a=0;a=6;a", told(Twice, name="a")),
                ("a=a 6;a", told(Unknown, name="a")), ("a=6 a;a", told(NoSuchNode, value=6))):
            self.assertEqual(outcome_unchanged(row_of, 6, text), wanted, text)

    def test_invalid_text_ahead_of_all(self):
        for text in ("b 9 )", "a=0;a=0;a )", "9 b  )", "0^99^99 b 9 )"):
            self.check(text, told(InvalidText, place=text.index(")")))


class Lengths(unittest.TestCase):
    def check(self, text, many):
        """The row has so many turns, or is too long for None; the one form always comes."""
        wanted = told(TooLong, most=200) if many is None else many
        found = outcome_unchanged(row_of, 2, text)
        self.assertEqual(len(found[1]) if found[0] == "value" else found, wanted, text)
        self.assertIsInstance(printed(text), str)

    def test_the_whole(self):
        self.check("0 " * 199 + "1", 200)
        self.check("0 " * 200 + "1", None)
        self.check("0^99 1^99 0 1", 200)
        self.check("0^99 1^99 0 1 0", None)
        self.check("a=0^50;[a,a]", 200)
        self.check("a=0^50;[a,a 1]", None)
        self.check("(0 1)^50^2", 200)
        self.check("(0^3)^67", None)
        self.check("a=0^99 0;a a", 200)
        self.check("a=0^99 0;a a~ 0^0", 200)
        self.check("a=0^99 0;a a 0", None)

    def test_a_part_that_is_not_done(self):
        self.check("a=0^99 0^99 0 0;1", 1)
        self.check("a=0^99 0^99 0 0 0;1", None)
        self.check("a=0^99;b=a a;c=b b;1", None)

    def test_a_part_that_is_done_nought_times(self):
        self.check("(0^99 0^99 0 0)^0", 0)
        self.check("(0^99 0^99 0 0 0)^0", None)
        self.check("[0^50,1^50]^0 1", 1)
        self.check("[0^50,1^51]^0 1", None)
        self.check("0^67^3^0", None)
        self.check("0^50^4^0", 0)
        self.check("(1^67^3)^0", None)
        self.check("0^99^99~^0", None)

    def test_powers_of_powers(self):
        self.check("0" + "^99" * 600, None)
        self.check("0" + "^99" * 600 + "^0", None)
        self.check("0^0" + "^99" * 600, 0)
        self.check("(0 1)" + "^1" * 900, 2)
        self.check("a=0^99;" + "".join(f"{y}={x}^99;" for x, y in itertools.pairwise("abcdefghij")) + "0", None)
        self.check("a=0 0;" + "".join(f"{y}=[{x},{x}];" for x, y in itertools.pairwise("abcdefghij")) + "j", None)
        self.check("(" * 30 + "0^99" + ")^99" * 30, None)
        self.check("[" * 30 + "0" + ",1]" * 30, None)

    def test_too_long_at_last(self):
        for text, wanted in (
                ("0^99^99 9", told(NoSuchNode, value=9)), ("0^99^99 b", told(Unknown, name="b")),
                ("a=0^99^99;a=0;a", told(Twice, name="a")), ("0^99^99 (", told(InvalidText, place=9))):
            self.assertEqual(outcome_unchanged(row_of, 2, text), wanted, text)
