"""Points 2, 3 and 90: what is written and read."""

import random
import unittest
from fractions import Fraction

from dueturns.errors import NoPlan, NoText
from dueturns.plans import Plan
from dueturns.texts import (
    read_bound, read_fraction, read_paper, read_plan, read_row, shown_bound, shown_fraction, shown_paper, shown_plan,
    shown_row,
)
from tests.helper import Refusals, anything, pair, random_spells

READERS = (read_plan, read_row, read_fraction, read_bound, read_paper)
MOST = 10 ** 60 - 1


def wrong_numbers():
    """Texts that are no number as it is written."""
    told = ["", " ", "00", "01", "007", "1" * 61, "0" * 61, "9" * 5000, "+1", "1_0", "1.0", "1e3", "0x1", "x", "a", "1a", "a1"]
    told += [" 1", "1 ", "1 1", "\t1", "1\n", "\n1", "1\r", "\u00a01", "1\u2003", "1-", "--1", "_1", "1_", "1,", "(1)"]
    # Figures of other kinds: Arabic, Indic, full width, raised, a fraction, a Roman one.
    return told + ["\u0661", "\u096a", "\uff11", "\u00b2", "1\u00b2", "\u00bd", "\u2167", "\u4e00", "1\u0660", "None", "True"]


class Plans(unittest.TestCase, Refusals):
    def test_plainly(self):
        self.assertEqual(shown_plan(Plan([(3, [1, 2]), (10, [0, 5])])), "3x1,2; 10x0,5")
        self.assertEqual(read_plan("3x1,2; 10x0,5").spells(), [(3, [1, 2]), (10, [0, 5])])
        self.assertEqual(read_plan("1x1").spells(), [(1, [1])])
        self.assertEqual(shown_plan(Plan([(60, [1000, 0, 0, 0, 0, 1])])), "60x1000,0,0,0,0,1")

    def test_what_is_shown_is_read_back(self):
        chance = random.Random(90)
        for number in range(200):
            spells = random_spells(chance, chance.randint(1, 6), chance.randint(1, 60))
            text = shown_plan(Plan(spells))
            self.assertIs(type(text), str)
            plan = read_plan(text)
            self.assertIsInstance(plan, Plan)
            self.assertEqual(plan.spells(), spells)
            self.assertEqual(shown_plan(plan), text)
            wanted = "; ".join(f"{turns}x{','.join(map(str, weights))}" for turns, weights in spells)
            self.assertEqual(text, wanted)

    def test_written_as_a_plan_but_none(self):
        for text, at in (
            ("0x1", 0), ("61x1", 0), ("1x0", 0), ("3x0,0", 0), ("1x1001", 0), ("1x1,1,1,1,1,1,1", 0), ("3x1; 3x1,1", 1),
            ("3x1; 3x1; 0x1", 2), ("60x1; 60x1; 60x1; 60x1; 1x1", 4), ("; ".join(["1x1"] * 9), 8), (f"{MOST}x1", 0),
            (f"1x{MOST}", 0), (f"1x1; 1x{10 ** 59}", 1), ("; ".join(["1x1"] * 5000), 8), ("1x" + ",".join(["1"] * 5000), 0),
        ):
            self.refused_at(NoPlan, at, read_plan, text)

    def test_no_text_ahead_of_no_plan(self):
        for text in ("0x1; ", "61x1; x", "0x1;1x1", "0x1; 01x1", "1x0,", "; ".join(["1x1"] * 9) + "; -", "0x1; 1x" + "1" * 61):
            self.refused(NoText, read_plan, text)

    def test_not_written_so(self):
        for text in (
            "", "x", "1", "1x", "x1", "1x1x1", "1X1", "1 x1", "1x 1", "1x1,", "1x,1", "1x1,,1", "1x1, 1", "1x1 ,1", "1x1;",
            "1x1; ", "; 1x1", "1x1;1x1", "1x1 ; 1x1", "1x1;  1x1", "1x1; ; 1x1", "1x1, 1x1", " 1x1", "1x1 ", "1x1\n", "1x-1",
            "-1x1", "1x1;\t1x1", "1x1;\n1x1", "[(1, [1])]", "1*1", "1x1/2", "1x1.5", "-", "a",
        ):
            self.refused(NoText, read_plan, text)
        for number in wrong_numbers():
            self.refused(NoText, read_plan, f"{number}x1")
            self.refused(NoText, read_plan, f"1x{number}")
            self.refused(NoText, read_plan, f"1x1,{number},1")
            self.refused(NoText, read_plan, f"1x1; {number}x1")


class Rows(unittest.TestCase, Refusals):
    def test_plainly(self):
        self.assertEqual(shown_row([0, 1, 2, 3, 4, 5]), "abcdef")
        self.assertEqual(read_row("fedcba"), [5, 4, 3, 2, 1, 0])
        self.assertEqual(shown_row([]), "-")
        self.assertEqual(read_row("-"), [])

    def test_what_is_shown_is_read_back(self):
        chance = random.Random(91)
        for turns in list(range(1, 50)) + [240, 241, 3000]:
            row = [chance.randrange(6) for turn in range(turns)]
            text = shown_row(row)
            self.assertEqual(len(text), turns)
            self.assertEqual(read_row(text), row)
            self.assertIs(type(read_row(text)), list)

    def test_not_written_so(self):
        for text in (
            "", "g", "abg", "A", "aB", "a b", " a", "a ", "a\n", "--", "-a", "a-", "0", "01", "ab1", "a,b", "\u0430", "\uff41",
        ):
            self.refused(NoText, read_row, text)

    def test_what_is_told_may_be_changed(self):
        row = read_row("ab")
        row.append(5)
        self.assertEqual(read_row("ab"), [0, 1])
        read_row("-").append(1)
        self.assertEqual(read_row("-"), [])


class Fractions(unittest.TestCase, Refusals):
    def test_plainly(self):
        for one, text in (((1, 2), "1/2"), ((-1, 2), "-1/2"), ((0, 1), "0"), ((7, 1), "7"), ((-7, 1), "-7"), ((10, 3), "10/3")):
            self.assertEqual(shown_fraction(one), text)
            self.assertEqual(read_fraction(text), one)

    def test_what_is_shown_is_read_back(self):
        chance = random.Random(92)
        for number in range(500):
            size = 10 ** chance.randint(1, 60)
            one = pair(Fraction(chance.randint(1 - size, size - 1), chance.randint(1, size - 1)))
            self.assertEqual(read_fraction(shown_fraction(one)), one)
            self.assertIs(type(read_fraction(shown_fraction(one))), tuple)
        for one in ((MOST, MOST - 1), (-MOST, MOST - 1), (MOST, 1), (-MOST, 1), (1, MOST), (-1, MOST), (10 ** 59, 3)):
            self.assertEqual(read_fraction(shown_fraction(one)), one)

    def test_not_written_so(self):
        for text in (
            "", "-", "/", "1/", "/2", "-/2", "1/1", "0/1", "-3/1", "1/0", "0/0", "-1/0", "2/4", "6/3", "0/2", "0/5",
            "-2/4", "-0", "-0/1", "-0/2", "1/2/3", "1//2", "1/-2", "-1/-2", "--1", "+1/2", "1/+2", "1 /2", "1/ 2",
            " 1/2", "1/2 ", "- 1/2", "1/2\n",
            "0.5", ".5", "1\\2", "1:2", "<1", "1/2<", "\u22121/2", "\u20131", "\u00bd", "1\u20442", "1\u22152",
        ):
            self.refused(NoText, read_fraction, text)
        for number in wrong_numbers():
            self.refused(NoText, read_fraction, number)
            self.refused(NoText, read_fraction, f"-{number}")
            self.refused(NoText, read_fraction, f"1/{number}")
            self.refused(NoText, read_fraction, f"{number}/7")
        self.refused(NoText, read_fraction, f"1/{MOST + 1}")
        self.refused(NoText, read_fraction, f"-{MOST + 1}/7")
        self.refused(NoText, read_fraction, "1" * 10000)


class Bounds(unittest.TestCase, Refusals):
    def test_plainly(self):
        for bound, text in (
            (((1, 2), False), "1/2"), (((1, 2), True), "<1/2"), (((0, 1), False), "0"), (((0, 1), True), "<0"),
            (((300, 1), False), "300"), (((300, 1), True), "<300"), (((599, 2), True), "<599/2"),
        ):
            self.assertEqual(shown_bound(bound), text)
            self.assertEqual(read_bound(text), bound)
            self.assertIs(read_bound(text)[1], bound[1])

    def test_what_is_shown_is_read_back(self):
        chance = random.Random(93)
        for number in range(500):
            bottom = chance.randint(1, 10 ** chance.randint(1, 57))
            bound = (pair(Fraction(chance.randint(0, 300 * bottom), bottom)), chance.random() < 0.5)
            self.assertEqual(read_bound(shown_bound(bound)), bound)
        for most in ((1, MOST), (MOST - 1, MOST), (MOST, MOST - 1)):
            for strict in (True, False):
                self.assertEqual(read_bound(shown_bound((most, strict))), (most, strict))

    def test_not_written_so(self):
        for text in (
            "", "<", "<<1", "< 1", "<1 ", " <1", "1<", ">1", "<=1", "=1", "<-1", "-1", "-1/2", "<-1/2", "-0", "<-0",
            "<2/4", "2/4", "1/1", "<1/1", "1/0", "<1/0", "<+1", "<01", "<1/02", "True 1", "1 True", "<1\n", "&lt;1", "\uff1c1",
        ):
            self.refused(NoText, read_bound, text)
        for number in wrong_numbers():
            self.refused(NoText, read_bound, number)
            self.refused(NoText, read_bound, f"<{number}")
            self.refused(NoText, read_bound, f"<1/{number}")

    def test_what_is_no_bound_is_no_written_one(self):
        for text in ("301", "<301", "601/2", "<601/2", str(MOST), f"<{MOST}/7"):
            self.refused(NoText, read_bound, text)


class Papers(unittest.TestCase, Refusals):
    def test_plainly(self):
        for paper, text in ((("over", 0, 3), "over 0 3"), (("under", 10, 240), "under 10 240"), (("over", 7, 2), "over 7 2")):
            self.assertEqual(shown_paper(paper), text)
            self.assertEqual(read_paper(text), paper)

    def test_what_is_shown_is_read_back(self):
        chance = random.Random(94)
        for word in ("over", "under"):
            for number in range(100):
                size = 10 ** chance.randint(0, 60)
                paper = (word, chance.randrange(size), chance.randrange(size))
                self.assertEqual(read_paper(shown_paper(paper)), paper)
                self.assertIs(type(read_paper(shown_paper(paper))), tuple)
            self.assertEqual(read_paper(shown_paper((word, MOST, MOST))), (word, MOST, MOST))

    def test_not_written_so(self):
        for text in (
            "", "over", "over 1", "over 1 2 3", "over  1 2", "over 1  2", " over 1 2", "over 1 2 ", "over 1 2\n",
            "over\t1 2", "over,1,2", "over1 2", "Over 1 2", "OVER 1 2", "above 1 2", "row 1 2", "ove 1 2", "overs 1 2",
            "1 over 2", "1 2", " 1 2", "over -1 2", "over 1 -2", "over 1/2 2",
            "over a b", "over under 1 2",
        ):
            self.refused(NoText, read_paper, text)
        for number in wrong_numbers():
            self.refused(NoText, read_paper, f"over {number} 1")
            self.refused(NoText, read_paper, f"under 1 {number}")


class OfAnything(unittest.TestCase, Refusals):
    def test_no_text(self):
        things = [thing for thing in anything() if type(thing) is not str]
        things += [0, 1, -1, b"1x1", b"a", ["a"], ("-",), Plan([(1, [1])])]
        for read in READERS:
            for thing in things + ["", " ", "over"]:
                self.refused(NoText, read, thing)
            self.refused(NoText, read, "ab" * 100000 + " ")
            self.refused(NoText, read, "1" * 100000)
            self.refused(NoText, read, "; " * 1000)
            self.refused(NoText, read, "a\x00")

    def test_the_same_text_is_read_alike(self):
        for read, text in zip(READERS, ("3x1,2; 1x0,1", "abc", "-1/2", "<1/2", "over 0 1")):
            one, other = read(text), read(text)
            if read == read_plan:
                one, other = one.spells(), other.spells()
            self.assertEqual(one, other)
