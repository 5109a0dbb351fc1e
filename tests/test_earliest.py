"""Points 2, 4 and 23: a row of all turns that keeps a bound, or a right paper."""

import random
import time
import unittest
from fractions import Fraction

from dueturns.earliest import kept_by
from dueturns.papers import keeps, shows_none
from dueturns.plans import Plan
from tests.helper import all_rows, lag_sizes, long_plans, pair, random_spells, row_fits, small_spells

MOSTS = ((0, 1), (1, 4), (1, 3), (1, 2), (3, 5), (2, 3), (3, 4), (5, 6), (9, 10), (1, 1), (3, 2), (7, 1), (300, 1))
BOUNDS = [(most, strict) for most in MOSTS for strict in (False, True)]
SECONDS = 5


class KeptBy(unittest.TestCase):
    def assert_told(self, plan, bound):
        """What is told is right of itself; its word."""
        told = kept_by(plan, bound)
        self.assertIs(type(told), tuple)
        word, thing = told
        if word == "row":
            self.assertIs(type(thing), list)
            self.assertEqual(len(thing), plan.turns())
            self.assertIs(keeps(plan, bound, thing), True)
        else:
            self.assertEqual(word, "paper")
            self.assertIs(shows_none(plan, bound, thing), True, (plan.spells(), bound, thing))
        return word

    def test_plainly(self):
        plan = Plan([(4, [1, 1])])
        self.assertEqual(self.assert_told(plan, ((1, 2), False)), "row")
        self.assertEqual(self.assert_told(plan, ((1, 2), True)), "paper")
        self.assertEqual(kept_by(Plan([(3, [1])]), ((0, 1), False)), ("row", [0, 0, 0]))
        self.assertEqual(kept_by(Plan([(3, [1])]), ((0, 1), True)), ("paper", ("over", 0, 0)))
        self.assertEqual(kept_by(Plan([(3, [0, 7])]), ((1, 9), True)), ("row", [1, 1, 1]))

    def test_against_all_rows_of_small_plans(self):
        chance = random.Random(230)
        words = {"row": 0, "paper": 0}
        for spells in small_spells(chance, 60):
            plan, rows = Plan(spells), all_rows(spells)
            chosen = chance.sample(BOUNDS, 6)
            for most in chance.sample(lag_sizes(spells), min(3, len(lag_sizes(spells)))):
                chosen += [(most, False), (most, True)]
            for bound in chosen:
                some = any(row_fits(spells, bound, row) for row in rows)
                word = self.assert_told(plan, bound)
                self.assertEqual(word, "row" if some else "paper", (spells, bound))
                words[word] += 1
        self.assertGreater(min(words.values()), 100)

    def test_just_where_rows_end(self):
        # Right at the least bound with a row, papers of both words and at all places are due.
        chance = random.Random(231)
        for number in range(150):
            plan = Plan(random_spells(chance, chance.randint(2, 6), chance.randint(2, 30)))
            mosts = lag_sizes(plan.spells())
            words = [self.assert_told(plan, (most, False)) for most in mosts[::5]]
            self.assertEqual(words, sorted(words))
            low, high = 0, len(mosts) - 1
            while low < high:
                middle = (low + high) // 2
                if self.assert_told(plan, (mosts[middle], False)) == "row":
                    high = middle
                else:
                    low = middle + 1
            self.assertEqual(self.assert_told(plan, (mosts[low], False)), "row")
            self.assertEqual(self.assert_told(plan, (mosts[low], True)), "paper")

    def test_a_paper_that_begins_late(self):
        plan = Plan([(1, [1, 1, 3, 2, 0]), (2, [5, 3, 1, 2, 1])])
        self.assertEqual(self.assert_told(plan, ((13, 21), False)), "row")
        self.assertEqual(self.assert_told(plan, ((13, 21), True)), "paper")

    def test_the_greatest_plans_in_a_short_time(self):
        chance = random.Random(232)
        for spells in long_plans(chance, 4):
            plan = Plan(spells)
            for bound in (((1, 1), True), ((9, 10), False), ((3, 4), False), ((1, 2), True), ((300, 1), False)):
                start = time.monotonic()
                self.assert_told(plan, bound)
                self.assertLess(time.monotonic() - start, SECONDS)

    def test_the_open_bound_of_1_always_has_a_row(self):
        chance = random.Random(233)
        for number in range(150):
            plan = Plan(random_spells(chance, chance.randint(1, 6), chance.randint(1, 60)))
            self.assertEqual(self.assert_told(plan, ((1, 1), True)), "row")
        for number in range(10):
            plan = Plan([(30, [chance.randint(0, 3) + 997 * (who == spell % 6) for who in range(6)]) for spell in range(8)])
            self.assertEqual(self.assert_told(plan, ((1, 1), True)), "row")

    def test_so_has_the_bound_that_is_never_passed(self):
        chance = random.Random(234)
        for many in range(2, 7):
            bound = (pair(Fraction(2 * many - 3, 2 * many - 2)), False)
            for number in range(20):
                plan = Plan(random_spells(chance, many, chance.randint(1, 60)))
                self.assertEqual(self.assert_told(plan, bound), "row")

    def test_the_told_row_is_new(self):
        plan, bound = Plan([(5, [1, 2]), (5, [3, 1])]), ((1, 1), True)
        word, row = kept_by(plan, bound)
        before = list(row)
        row.clear()
        kept_by(plan, ((1, 5), False))
        self.assertEqual(kept_by(plan, bound), ("row", before))
        self.assertEqual(plan.spells(), [(5, [1, 2]), (5, [3, 1])])
