"""Points 2, 3, 4 and 31: rows that keep a bound, counted and numbered."""

import random
import time
import unittest
from fractions import Fraction
from functools import lru_cache

from dueturns.errors import NoBound, NoNumber, NoRow, TooMany
from dueturns.numbering import how_many, how_many_begin, next_row, number_of, row_at
from dueturns.papers import keeps
from dueturns.plans import Plan
from tests.helper import Refusals, all_rows, anything, lag_fits, lag_sizes, lags, long_plans, no_whole_between
from tests.helper import pair, row_fits, small_spells, wrong_bounds

SPELLS = [(3, [1, 2, 0]), (2, [5, 6, 1])]
WIDE = ((1, 1), False)
BOUNDS = [(most, strict) for most in ((0, 1), (1, 2), (2, 3), (3, 4), (1, 1)) for strict in (False, True)]
SECONDS = 10


@lru_cache
def samples():
    """Spells, a bound, all rows of all turns, and those of them that keep the bound, in order."""
    chance = random.Random(31)
    told = []
    for spells in small_spells(chance, 30):
        rows, mosts = all_rows(spells), lag_sizes(spells)
        edges = [(most, strict) for most in chance.sample(mosts, min(2, len(mosts))) for strict in (False, True)]
        for bound in [WIDE, ((1, 1), True)] + chance.sample(BOUNDS, 2) + edges:
            told.append((spells, bound, rows, [row for row in rows if row_fits(spells, bound, row)]))
    return told


def first_wrong(spells, bound, row):
    """The least number of turns behind which a lag does not keep a bound."""
    told = lags(spells, row)
    return min(turns for turns, line in enumerate(told) if not all(lag_fits(bound, lag) for lag in line))


class Numbers(unittest.TestCase, Refusals):
    def test_plainly(self):
        plan, bound = Plan([(4, [1, 1])]), ((1, 2), False)
        rows = [[0, 1, 0, 1], [0, 1, 1, 0], [1, 0, 0, 1], [1, 0, 1, 0]]
        self.assertEqual(how_many(plan, bound), 4)
        self.assertEqual([row_at(plan, bound, number) for number in range(4)], rows)
        self.assertEqual([number_of(plan, bound, row) for row in rows], [0, 1, 2, 3])
        self.assertEqual([next_row(plan, bound, row) for row in rows], rows[1:] + [None])
        begun = ([], [0], [1], [0, 1], [0, 0], [0, 1, 1], [1, 0, 1, 0], [0, 0, 1, 1])
        self.assertEqual([how_many_begin(plan, bound, row) for row in begun], [4, 2, 2, 2, 0, 1, 1, 0])

    def test_against_all_rows_of_small_plans(self):
        empty = 0
        for spells, bound, rows, kept in samples():
            plan = Plan(spells)
            self.assertEqual(how_many(plan, bound), len(kept))
            numbers = range(len(kept)) if len(kept) < 20 else [0, 1, 7, len(kept) // 2, len(kept) - 2, len(kept) - 1]
            for number in numbers:
                row = row_at(plan, bound, number)
                self.assertIs(type(row), list)
                self.assertEqual(row, kept[number], (spells, bound))
                self.assertEqual(number_of(plan, bound, row), number)
                after = kept[number + 1] if number + 1 < len(kept) else None
                self.assertEqual(next_row(plan, bound, row), after)
            for number in (-1, len(kept), len(kept) + 1):
                self.refused(NoNumber, row_at, plan, bound, number)
            empty += len(kept) == 0
        self.assertGreater(empty, 10)

    def test_how_many_begin_against_all_rows(self):
        chance = random.Random(310)
        for spells, bound, rows, kept in samples():
            plan = Plan(spells)
            for turns in range(plan.turns() + 1):
                for row in chance.sample(rows, 1) + chance.sample(kept, min(len(kept), 2)):
                    many = sum(one[:turns] == row[:turns] for one in kept)
                    self.assertEqual(how_many_begin(plan, bound, row[:turns]), many, (spells, bound, row[:turns]))

    def test_counts_that_are_kept_again_do_not_make_a_beginning_good(self):
        # Behind three turns the counts are good, but behind two they were not.
        plan, bound = Plan([(4, [1, 1])]), ((1, 2), False)
        self.assertEqual(how_many_begin(plan, bound, [0, 0, 1]), 0)
        self.assertEqual(how_many_begin(plan, bound, [0, 1, 0]), 1)

    def test_no_row_behind_0_turns(self):
        for spells in (SPELLS, [(1, [1])], [(3, [1])]):
            plan, bound = Plan(spells), ((0, 1), True)
            self.assertEqual(how_many(plan, bound), 0)
            self.assertEqual(how_many_begin(plan, bound, []), 0)
            self.assertEqual(how_many_begin(plan, bound, [0]), 0)
            self.refused(NoNumber, row_at, plan, bound, 0)
            self.refused_at(NoRow, 0, number_of, plan, bound, [0] * plan.turns())
            self.refused_at(NoRow, 0, next_row, plan, bound, [0] * plan.turns())

    def test_one_claimant(self):
        plan, bound = Plan([(60, [3]), (60, [7])]), ((0, 1), False)
        self.assertEqual(how_many(plan, bound), 1)
        self.assertEqual(row_at(plan, bound, 0), [0] * 120)
        self.assertEqual(number_of(plan, bound, [0] * 120), 0)
        self.assertIs(next_row(plan, bound, [0] * 120), None)
        self.assertEqual([how_many_begin(plan, bound, [0] * turns) for turns in range(121)], [1] * 121)

    def test_what_is_told_and_handed_in_may_be_changed(self):
        plan = Plan(SPELLS)
        row = row_at(plan, WIDE, 3)
        kept = list(row)
        after = next_row(plan, WIDE, row)
        number_of(plan, WIDE, row)
        how_many_begin(plan, WIDE, row)
        self.assertEqual(row, kept)
        row.clear()
        self.assertEqual(row_at(plan, WIDE, 3), kept)
        again = list(after)
        after.append(0)
        self.assertEqual(next_row(plan, WIDE, kept), again)
        self.assertEqual(plan.spells(), SPELLS)


class FarTooManyToList(unittest.TestCase):
    def test_by_hand(self):
        # In each two turns both are chosen, in any order.
        plan = Plan([(60, [1, 1])] * 4)
        self.assertEqual(how_many(plan, ((1, 2), False)), 2 ** 120)
        self.assertEqual(row_at(plan, ((1, 2), False), 0), [0, 1] * 120)
        self.assertEqual(row_at(plan, ((1, 2), False), 2 ** 120 - 1), [1, 0] * 120)
        self.assertEqual(row_at(plan, ((1, 2), False), 1), [0, 1] * 119 + [1, 0])
        self.assertEqual(number_of(plan, ((1, 2), False), [1, 0] + [0, 1] * 119), 2 ** 119)
        self.assertEqual(how_many_begin(plan, ((1, 2), False), [0, 1] * 20), 2 ** 100)
        self.assertEqual(how_many_begin(plan, ((1, 2), False), [0, 1] * 20 + [1]), 2 ** 99)
        # In each six turns all are chosen, in any order.
        self.assertEqual(how_many(Plan([(60, [1] * 6)] * 4), ((1, 1), True)), 720 ** 40)

    def test_the_greatest_plans_in_a_short_time(self):
        chance = random.Random(311)
        for spells in long_plans(chance, 3) + [[(60, [0, 0, 0, 0, 0, 1])] * 4, [(60, [1, 1, 0, 0, 0, 0])] * 4]:
            plan = Plan(spells)
            for bound in (WIDE, ((1, 1), True), ((9, 10), False)):
                start = time.monotonic()
                many = how_many(plan, bound)
                self.assertGreater(many, 0)
                self.assertEqual(sum(how_many_begin(plan, bound, [who]) for who in range(6)), many)
                for number in (0, many // 3, many - 1):
                    row = row_at(plan, bound, number)
                    self.assertIs(keeps(plan, bound, row), True)
                    self.assertEqual(number_of(plan, bound, row), number)
                    after = next_row(plan, bound, row)
                    self.assertIs(after is None, number == many - 1)
                    if after is not None:
                        self.assertGreater(after, row)
                        self.assertEqual(number_of(plan, bound, after), number + 1)
                self.assertLess(time.monotonic() - start, SECONDS)


class WhatIsRefused(unittest.TestCase, Refusals):
    def test_no_bound_ahead_of_all_others(self):
        plan = Plan(SPELLS)
        for thing in wrong_bounds():
            self.refused(NoBound, how_many, plan, thing)
            for call in (how_many_begin, number_of, next_row, row_at):
                self.refused(NoBound, call, plan, thing, None)

    def test_too_many_ahead_of_no_row_and_no_number(self):
        plan = Plan(SPELLS)
        for most in ((2, 1), (300, 1), (3, 2), (10 ** 50 + 1, 10 ** 50)):
            for strict in (False, True):
                self.refused(TooMany, how_many, plan, (most, strict))
                for thing in (None, 0, -1, [], [0], [None], [1, 0, 1, 1, 0]):
                    for call in (how_many_begin, number_of, next_row, row_at):
                        self.refused(TooMany, call, plan, (most, strict), thing)

    def test_a_most_of_1_is_not_too_many(self):
        for bound in (WIDE, ((1, 1), True)):
            self.assertEqual(how_many(Plan(SPELLS), bound), sum(row_fits(SPELLS, bound, row) for row in all_rows(SPELLS)))
        close = (pair(Fraction(10 ** 50 - 1, 10 ** 50)), False)
        self.assertEqual(how_many(Plan(SPELLS), close), how_many(Plan(SPELLS), ((1, 1), True)))

    def test_no_number(self):
        plan = Plan(SPELLS)
        many = how_many(plan, WIDE)
        for thing in no_whole_between(0, many - 1):
            self.refused(NoNumber, row_at, plan, WIDE, thing)
        self.assertEqual(number_of(plan, WIDE, row_at(plan, WIDE, many - 1)), many - 1)

    def test_no_row_as_in_13(self):
        plan, good = Plan(SPELLS), row_at(Plan(SPELLS), WIDE, 0)
        for call in (how_many_begin, number_of, next_row):
            for thing in anything() + [0, (0, 1), tuple(good), "ab"]:
                if type(thing) is not list:
                    self.refused_at(NoRow, 0, call, plan, WIDE, thing)
            for thing in no_whole_between(0, 2):
                for ahead in range(5):
                    self.refused_at(NoRow, ahead, call, plan, WIDE, good[:ahead] + [thing] + good[ahead + 1:])
                    self.refused_at(NoRow, ahead, call, plan, WIDE, good[:ahead] + [thing, None])
            self.refused_at(NoRow, 5, call, plan, WIDE, good + [0])
            self.refused_at(NoRow, 5, call, plan, WIDE, [0] * 5 + [None, 0])

    def test_too_few_turns_ahead_of_lags(self):
        plan, good = Plan(SPELLS), row_at(Plan(SPELLS), WIDE, 0)
        for call in (number_of, next_row):
            for turns in range(5):
                self.refused_at(NoRow, turns, call, plan, WIDE, good[:turns])
                self.refused_at(NoRow, turns, call, plan, WIDE, [2] * turns)
                self.refused_at(NoRow, turns, call, plan, ((0, 1), True), [2] * turns)
            self.assertIsNotNone(call(plan, WIDE, good))

    def test_the_first_lag_that_does_not_keep_the_bound(self):
        chance, places = random.Random(312), set()
        for spells, bound, rows, kept in samples():
            plan = Plan(spells)
            wrong = [row for row in rows if row not in kept]
            for row in chance.sample(wrong, min(5, len(wrong))):
                at = first_wrong(spells, bound, row)
                places.add(at)
                self.refused_at(NoRow, at, number_of, plan, bound, row)
                self.refused_at(NoRow, at, next_row, plan, bound, row)
        self.assertGreater(len(places), 4)

    def test_what_is_made_good_is_taken(self):
        plan, row = Plan(SPELLS), [1, 0, 1, 1]
        self.refused_at(NoRow, 4, number_of, plan, WIDE, row)
        row.append(0)
        self.assertEqual(row_at(plan, WIDE, number_of(plan, WIDE, row)), [1, 0, 1, 1, 0])
