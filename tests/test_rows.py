"""Points 2, 3, 13 and 14: rows, counts, lags and the worst."""

import random
import unittest

from dueturns.errors import NoClaimant, NoRow, NoTurns
from dueturns.plans import Plan
from dueturns.rows import counts, lag, worst
from tests.helper import Refusals, all_rows, anything, lags, no_whole_between, pair, random_spells

SPELLS = [(3, [1, 2, 0]), (4, [5, 6, 1])]
ROW = [1, 0, 1, 2, 1, 0, 1]


def samples():
    """Spells and rows of them, of each length."""
    chance = random.Random(13)
    told = []
    for many in range(1, 7):
        for time in range(4):
            spells = random_spells(chance, many, chance.randint(1, 20))
            turns = sum(length for length, weights in spells)
            row = [chance.randrange(many) for turn in range(turns)]
            told += [(spells, row[:length]) for length in {0, 1, turns // 2, turns}]
    return told


def slow_worst(spells, row):
    """The worst by its words: all lags are gone through."""
    told = [(-abs(one), turns, who) for turns, line in enumerate(lags(spells, row)) for who, one in enumerate(line)]
    most, turns, who = min(told)
    return (pair(-most), turns, who)


class WhatIsNoRow(unittest.TestCase, Refusals):
    def calls(self, plan):
        return [
            lambda row: counts(plan, row, 0), lambda row: counts(plan, row, None), lambda row: counts(plan, row, 99),
            lambda row: lag(plan, row, 0, 0), lambda row: lag(plan, row, None, 0), lambda row: lag(plan, row, 0, None),
            lambda row: lag(plan, row, -1, -1), lambda row: worst(plan, row),
        ]

    def test_no_list(self):
        for call in self.calls(Plan(SPELLS)):
            for thing in anything() + [0, 1, (0, 1), (), "ab", {0: 1}, range(2), iter([0])]:
                if type(thing) is not list:
                    self.refused_at(NoRow, 0, call, thing)

    def test_the_first_that_is_no_claimant(self):
        for call in self.calls(Plan(SPELLS)):
            for ahead in range(7):
                for thing in no_whole_between(0, 2):
                    self.refused_at(NoRow, ahead, call, ROW[:ahead] + [thing])
                    self.refused_at(NoRow, ahead, call, ROW[:ahead] + [thing, None, 0])

    def test_one_too_many(self):
        for call in self.calls(Plan(SPELLS)):
            for more in ([0], [None], [0, 0, 0], [0, None], [0] * 1000):
                self.refused_at(NoRow, 7, call, ROW + more)
            self.refused_at(NoRow, 2, call, [0, 0, 3] + ROW)

    def test_claimants_are_those_of_the_plan(self):
        self.refused_at(NoRow, 1, worst, Plan([(5, [1])]), [0, 1])
        self.refused_at(NoRow, 2, worst, Plan([(5, [1] * 6)]), [5, 4, 6])
        self.assertEqual(counts(Plan([(5, [1] * 6)]), [5, 4], 2), [0, 0, 0, 0, 1, 1])

    def test_what_is_made_good_is_taken(self):
        row = [0, 3]
        self.refused_at(NoRow, 1, worst, Plan(SPELLS), row)
        self.assertEqual(row, [0, 3])
        row[1] = 2
        self.assertEqual(counts(Plan(SPELLS), row, 2), [1, 0, 1])


class CountsAndLags(unittest.TestCase, Refusals):
    def test_plainly(self):
        plan = Plan(SPELLS)
        self.assertEqual([counts(plan, ROW, turns) for turns in (0, 1, 3, 7)], [[0] * 3, [0, 1, 0], [1, 2, 0], [2, 4, 1]])
        self.assertEqual([lag(plan, ROW, turns, 1) for turns in (0, 1, 2, 3, 4)], [(0, 1), (-1, 3), (1, 3), (0, 1), (1, 2)])
        self.assertEqual(lag(plan, ROW, 7, 0), (2, 3))

    def test_behind_each_number_of_turns(self):
        for spells, row in samples():
            plan = Plan(spells)
            for turns, line in enumerate(lags(spells, row)):
                told = counts(plan, row, turns)
                self.assertEqual(told, [row[:turns].count(who) for who in range(plan.many())])
                self.assertEqual([lag(plan, row, turns, who) for who in range(plan.many())], [pair(one) for one in line])

    def test_the_longest_plan(self):
        spells = random_spells(random.Random(240), 6, 240)
        row = [turn % 6 for turn in range(240)]
        told = lags(spells, row)
        for turns in (0, 1, 120, 239, 240):
            self.assertEqual(counts(Plan(spells), row, turns), [row[:turns].count(who) for who in range(6)])
            self.assertEqual(lag(Plan(spells), row, turns, 5), pair(told[turns][5]))

    def test_no_turns(self):
        plan = Plan(SPELLS)
        for length in (0, 1, 4, 7):
            for turns in no_whole_between(0, length):
                self.refused(NoTurns, counts, plan, ROW[:length], turns)
                for who in (0, 3, None):
                    self.refused(NoTurns, lag, plan, ROW[:length], turns, who)

    def test_no_claimant(self):
        for turns in (0, 3, 7):
            for who in no_whole_between(0, 2):
                self.refused(NoClaimant, lag, Plan(SPELLS), ROW, turns, who)

    def test_the_told_list_is_new_and_the_row_stays(self):
        plan, row = Plan(SPELLS), list(ROW)
        told = counts(plan, row, 5)
        told[0] = 77
        told.append(3)
        self.assertEqual(counts(plan, row, 5), [1, 3, 1])
        lag(plan, row, 5, 1)
        worst(plan, row)
        self.assertEqual(row, ROW)
        self.assertEqual(plan.spells(), SPELLS)
        self.assertEqual(counts(plan, row, 5), [1, 3, 1])


class Worst(unittest.TestCase, Refusals):
    def test_plainly(self):
        self.assertEqual(worst(Plan([(2, [1, 1])]), [0, 1]), ((1, 2), 1, 0))
        self.assertEqual(worst(Plan([(3, [1, 2])]), [0, 1, 1]), ((2, 3), 1, 0))
        self.assertEqual(worst(Plan([(3, [1, 2])]), [0, 0, 0]), ((2, 1), 3, 0))

    def test_least_turns_among_like_ones(self):
        self.assertEqual(worst(Plan([(6, [1, 1])]), [0, 1, 1, 0, 0, 1]), ((1, 2), 1, 0))
        self.assertEqual(worst(Plan([(6, [0, 1, 1])]), [1, 2, 2, 1, 1, 2]), ((1, 2), 1, 1))

    def test_least_claimant_among_like_ones(self):
        self.assertEqual(worst(Plan([(3, [1, 1, 1])]), [0, 1, 2]), ((2, 3), 1, 0))
        self.assertEqual(worst(Plan([(2, [1, 1, 0])]), [2, 2]), ((2, 1), 2, 2))
        self.assertEqual(worst(Plan([(2, [1, 1, 2])]), [2, 2]), ((1, 1), 2, 2))
        self.assertEqual(worst(Plan([(1, [1, 2, 3])]), [1]), ((2, 3), 1, 1))
        self.assertEqual(worst(Plan([(1, [1, 1])]), [1]), ((1, 2), 1, 0))

    def test_the_row_without_turns(self):
        for spells in (SPELLS, [(1, [1])], [(60, [0, 0, 1, 1000, 5, 6])]):
            self.assertEqual(worst(Plan(spells), []), ((0, 1), 0, 0))

    def test_rows_without_lags(self):
        self.assertEqual(worst(Plan([(5, [1])]), [0] * 5), ((0, 1), 0, 0))
        self.assertEqual(worst(Plan([(5, [0, 3])]), [1] * 5), ((0, 1), 0, 0))

    def test_against_all_lags(self):
        for spells, row in samples():
            self.assertEqual(worst(Plan(spells), row), slow_worst(spells, row))
        for row in all_rows([(2, [1, 2, 3]), (3, [3, 0, 1])]):
            self.assertEqual(worst(Plan([(2, [1, 2, 3]), (3, [3, 0, 1])]), row), slow_worst([(2, [1, 2, 3]), (3, [3, 0, 1])], row))
