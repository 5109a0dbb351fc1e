"""Points 2, 4 and 30: the least worst, with a row that has it and a paper that none has a lesser one."""

import random
import time
import unittest
from fractions import Fraction

from dueturns.least import fairest
from dueturns.papers import shows_none
from dueturns.plans import Plan
from dueturns.rows import worst
from tests.helper import lags, least_worst, long_plans, pair, random_spells, small_spells

SECONDS = 10


class Fairest(unittest.TestCase):
    def assert_told(self, spells):
        """What is told is right of itself; the least worst."""
        plan = Plan(spells)
        told = fairest(plan)
        self.assertIs(type(told), tuple)
        most, row, paper = told
        self.assertIs(type(row), list)
        self.assertEqual(len(row), plan.turns())
        self.assertEqual(pair(max(abs(lag) for line in lags(spells, row) for lag in line)), most)
        self.assertEqual(worst(plan, row)[0], most)
        self.assertIs(shows_none(plan, (most, True), paper), True, (spells, told))
        self.assertIs(shows_none(plan, (most, False), paper), False)
        many = plan.many()
        self.assertLessEqual(Fraction(*most), Fraction(2 * many - 3, 2 * many - 2) if many > 1 else 0)
        return most

    def test_plainly(self):
        self.assertEqual(self.assert_told([(2, [1, 1])]), (1, 2))
        self.assertEqual(self.assert_told([(3, [1, 1, 1])]), (2, 3))
        self.assertEqual(self.assert_told([(3, [1, 2])]), (1, 3))
        self.assertEqual(self.assert_told([(2, [1, 1]), (1, [1, 0]), (2, [0, 7])]), (1, 2))

    def test_against_all_rows_of_small_plans(self):
        chance = random.Random(300)
        for spells in small_spells(chance, 80):
            self.assertEqual(self.assert_told(spells), pair(least_worst(spells)), spells)

    def test_one_claimant(self):
        for spells in ([(1, [1])], [(60, [1000])] * 4, [(30, [3 + spell]) for spell in range(8)]):
            turns = Plan(spells).turns()
            self.assertEqual(fairest(Plan(spells))[:2], ((0, 1), [0] * turns))
            self.assertEqual(self.assert_told(spells), (0, 1))

    def test_nobody_needs_to_wait(self):
        self.assertEqual(fairest(Plan([(5, [0, 3, 0])]))[:2], ((0, 1), [1] * 5))
        self.assertEqual(fairest(Plan([(2, [0, 3]), (1, [2, 0])]))[:2], ((0, 1), [1, 1, 0]))
        self.assertEqual(self.assert_told([(2, [0, 3]), (1, [2, 0])]), (0, 1))

    def test_never_above_the_promise_and_as_great_as_that(self):
        chance = random.Random(301)
        for many in range(2, 7):
            for number in range(15):
                self.assert_told(random_spells(chance, many, chance.randint(1, 60)))
        self.assertEqual(self.assert_told([(1, [1, 1])]), (1, 2))
        # A plan for three claimants whose least worst is the greatest that the promise leaves.
        self.assertEqual(self.assert_told([(1, [2, 1, 1]), (1, [0, 1, 1])]), (3, 4))

    def test_weights_taken_so_many_times(self):
        chance = random.Random(302)
        for number in range(20):
            many = chance.randint(1, 6)
            spells = [(chance.randint(1, 5), [chance.randint(0, 9) for who in range(many - 1)] + [1]) for spell in range(4)]
            often = [chance.choice([1, 2, 7, 111]) for spell in spells]
            more = [(turns, [by * weight for weight in weights]) for by, (turns, weights) in zip(often, spells)]
            self.assertEqual(self.assert_told(more), self.assert_told(spells))

    def test_the_greatest_plans_in_a_short_time(self):
        for spells in long_plans(random.Random(303), 5):
            start = time.monotonic()
            fairest(Plan(spells))
            self.assertLess(time.monotonic() - start, SECONDS)
            self.assert_told(spells)
        self.assertEqual(self.assert_told([(60, [1] * 6)] * 4), (5, 6))

    def test_what_is_told_may_be_changed(self):
        plan = Plan([(5, [1, 2]), (5, [3, 1])])
        first = fairest(plan)
        kept = (first[0], list(first[1]), first[2])
        first[1].clear()
        self.assertEqual(fairest(plan), kept)
        self.assertEqual(plan.spells(), [(5, [1, 2]), (5, [3, 1])])
