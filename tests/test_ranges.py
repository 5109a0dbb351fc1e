"""Points 2, 3, 20, 21 and 22: bounds, ranges and windows."""

import random
import unittest
from fractions import Fraction

from dueturns.earliest import kept_by
from dueturns.errors import NoBound, NoClaimant, NoNumber, NoTurns
from dueturns.papers import keeps, shows_none
from dueturns.plans import Plan
from dueturns.ranges import lag_keeps, range_of, window
from tests.helper import Refusals, all_rows, anything, dues, lag_fits, no_whole_between, pair, random_spells
from tests.helper import row_fits, slow_range, wrong_bounds

SPELLS = [(3, [1, 2, 0]), (4, [5, 6, 1])]
MOSTS = [(0, 1), (1, 7), (1, 3), (1, 2), (2, 3), (5, 6), (1, 1), (7, 5), (2, 1), (9, 2), (299, 1), (300, 1)]
BOUNDS = [(most, strict) for most in MOSTS for strict in (False, True)]


class Bounds(unittest.TestCase, Refusals):
    def test_lag_keeps_around_most(self):
        bit = Fraction(1, 10 ** 30)
        for most in MOSTS:
            edge = Fraction(*most)
            for sign in (1, -1):
                self.assertIs(lag_keeps((most, False), pair(sign * edge)), True)
                self.assertIs(lag_keeps((most, True), pair(sign * edge)), False)
                for strict in (False, True):
                    self.assertIs(lag_keeps((most, strict), pair(sign * (edge + bit))), False)
                    if edge > 0:
                        self.assertIs(lag_keeps((most, strict), pair(sign * (edge - bit))), True)

    def test_lag_keeps_of_many(self):
        for bound in BOUNDS:
            for top in range(-40, 41):
                for bottom in (1, 2, 3, 7, 15):
                    one = Fraction(top, bottom)
                    self.assertIs(lag_keeps(bound, pair(one)), lag_fits(bound, one))

    def test_what_is_no_bound_is_refused_ahead_of_all_others(self):
        plan = Plan(SPELLS)
        for thing in wrong_bounds():
            self.refused(NoBound, range_of, plan, thing, 0, 0)
            self.refused(NoBound, range_of, plan, thing, None, None)
            self.refused(NoBound, window, plan, thing, 0, 1)
            self.refused(NoBound, window, plan, thing, None, None)
            self.refused(NoBound, keeps, plan, thing, [])
            self.refused(NoBound, keeps, plan, thing, None)
            self.refused(NoBound, shows_none, plan, thing, ("over", 0, 0))
            self.refused(NoBound, shows_none, plan, thing, None)
            self.refused(NoBound, kept_by, plan, thing)

    def test_bounds_at_the_edges_are_taken(self):
        plan = Plan(SPELLS)
        long = (10 ** 59 + 1, 10 ** 59)
        for bound in BOUNDS + [((1, 10 ** 59), True), (long, False), ((300 * 10 ** 50 - 1, 10 ** 50), True)]:
            self.assertEqual(range_of(plan, bound, 5, 1), slow_range(bound, dues(SPELLS)[5][1]))
            self.assertIs(keeps(plan, bound, []), lag_fits(bound, 0))


class Ranges(unittest.TestCase, Refusals):
    def test_plainly(self):
        plan = Plan([(4, [1, 1])])
        self.assertEqual(range_of(plan, ((1, 2), False), 1, 0), (0, 1))
        self.assertEqual(range_of(plan, ((1, 2), True), 1, 0), (1, 0))
        self.assertEqual(range_of(plan, ((1, 2), True), 2, 0), (1, 1))
        self.assertEqual(range_of(plan, ((1, 1), False), 2, 0), (0, 2))
        self.assertEqual(range_of(plan, ((1, 1), True), 2, 0), (1, 1))
        self.assertEqual(range_of(plan, ((5, 2), False), 3, 0), (0, 4))
        self.assertEqual(range_of(plan, ((5, 2), True), 3, 0), (0, 3))

    def test_a_most_of_0(self):
        plan = Plan([(4, [1, 1])])
        self.assertEqual(range_of(plan, ((0, 1), False), 0, 0), (0, 0))
        self.assertEqual(range_of(plan, ((0, 1), True), 0, 0), (1, 0))
        self.assertEqual(range_of(plan, ((0, 1), False), 1, 0), (1, 0))
        self.assertEqual(range_of(plan, ((0, 1), True), 1, 0), (1, 0))
        self.assertEqual(range_of(plan, ((0, 1), False), 4, 0), (2, 2))
        self.assertEqual(range_of(plan, ((0, 1), True), 4, 0), (3, 1))

    def test_by_its_words(self):
        chance = random.Random(21)
        for many in range(1, 6):
            spells = random_spells(chance, many, 9)
            plan = Plan(spells)
            for turns, line in enumerate(dues(spells)):
                for who, due in enumerate(line):
                    # A bound that is a lag of the plan lies just on the edge of some count.
                    edges = [(pair(abs(due - often)), strict) for often in (0, 1, 2) for strict in (False, True)]
                    for bound in edges + chance.sample(BOUNDS, 5):
                        told = range_of(plan, bound, turns, who)
                        self.assertIs(type(told), tuple)
                        self.assertEqual(told, slow_range(bound, due), (spells, bound, turns, who))

    def test_a_row_keeps_a_bound_just_where_counts_lie_in_ranges(self):
        for spells in ([(2, [1, 2]), (3, [3, 1])], [(4, [1, 2, 2])], [(3, [0, 1])]):
            plan = Plan(spells)
            turns = plan.turns()
            for bound in BOUNDS:
                table = [[range_of(plan, bound, t, who) for who in range(plan.many())] for t in range(turns + 1)]
                for row in all_rows(spells):
                    inside = all(
                        low <= row[:t].count(who) <= high
                        for t in range(turns + 1) for who, (low, high) in enumerate(table[t])
                    )
                    self.assertIs(inside, row_fits(spells, bound, row))

    def test_no_turns_then_no_claimant(self):
        plan, bound = Plan(SPELLS), ((1, 2), True)
        for turns in no_whole_between(0, 7):
            for who in (0, 3, None):
                self.refused(NoTurns, range_of, plan, bound, turns, who)
        for who in no_whole_between(0, 2):
            for turns in (0, 7):
                self.refused(NoClaimant, range_of, plan, bound, turns, who)

    def test_nothing_handed_in_is_changed(self):
        spells = [(3, [1, 2, 0]), (4, [5, 6, 1])]
        plan = Plan(spells)
        first = [range_of(plan, bound, 4, 1) for bound in BOUNDS]
        window(plan, BOUNDS[0], 1, 2)
        kept_by(plan, BOUNDS[3])
        self.assertEqual([range_of(plan, bound, 4, 1) for bound in BOUNDS], first)
        self.assertEqual(plan.spells(), SPELLS)


class Windows(unittest.TestCase, Refusals):
    def test_plainly(self):
        plan = Plan([(6, [1, 2])])
        self.assertEqual(window(plan, ((1, 1), True), 0, 1), (1, 3))
        self.assertEqual(window(plan, ((1, 1), True), 0, 2), (4, 6))
        self.assertEqual(window(plan, ((1, 1), True), 0, 3), (None, None))
        self.assertEqual(window(plan, ((1, 1), False), 0, 1), (0, 4))
        self.assertEqual(window(plan, ((1, 1), False), 0, 3), (6, None))
        self.assertEqual(window(plan, ((1, 2), False), 1, 1), (1, 1))
        self.assertEqual(window(plan, ((0, 1), True), 0, 1), (4, 0))
        self.assertEqual(window(plan, ((300, 1), False), 0, 302), (6, None))
        self.assertEqual(window(plan, ((300, 1), False), 0, 303), (None, None))

    def slow_window(self, plan, bound, who, k):
        told = [range_of(plan, bound, turns, who) for turns in range(plan.turns() + 1)]
        firsts = [turns for turns, (low, high) in enumerate(told) if high >= k]
        lasts = [turns for turns, (low, high) in enumerate(told) if low >= k]
        return (min(firsts, default=None), min(lasts, default=None))

    def test_first_last_and_one_more_than_the_due(self):
        chance = random.Random(22)
        for many in range(1, 6):
            spells = random_spells(chance, many, 12)
            plan = Plan(spells)
            for who in range(many):
                last = int(dues(spells)[-1][who])
                for bound in BOUNDS:
                    for k in {1, 2, max(1, last), last + 1, last + 2, 10 ** 30}:
                        told = window(plan, bound, who, k)
                        self.assertIs(type(told), tuple)
                        self.assertEqual(told, self.slow_window(plan, bound, who, k))

    def test_choices_of_rows_lie_in_their_windows(self):
        spells = [(2, [1, 2]), (3, [3, 1])]
        plan = Plan(spells)
        for bound in BOUNDS:
            for row in all_rows(spells):
                if row_fits(spells, bound, row):
                    for who in (0, 1):
                        turns = [turn for turn, one in enumerate(row, 1) if one == who]
                        for k, turn in enumerate(turns, 1):
                            first, last = window(plan, bound, who, k)
                            self.assertLessEqual(first, turn)
                            self.assertTrue(last is None or turn <= last)

    def test_no_claimant_then_no_number(self):
        plan, bound = Plan(SPELLS), ((1, 2), False)
        for who in no_whole_between(0, 2):
            for k in (1, 0, None):
                self.refused(NoClaimant, window, plan, bound, who, k)
        for k in anything() + [0, -1, -10 ** 70]:
            self.refused(NoNumber, window, plan, bound, 0, k)
        self.assertEqual(window(plan, bound, 0, 10 ** 70), (None, None))
