"""Points 2, 3 and 52 to 54: weights that stand for ever."""

import random
import time
import unittest
from fractions import Fraction
from math import gcd

from dueturns.earliest import kept_by
from dueturns.errors import NoBound, NoPlan, NoRunning, TooMany
from dueturns.forever import broken_at, dealt_for_ever, lags_of
from dueturns.papers import shows_none
from dueturns.plans import Plan
from dueturns.runnings import count_at
from tests.helper import Refusals, lag_fits, long_row, pair, random_running, wrong_bounds, wrong_runnings, wrong_weights

BOUND = ((1, 1), True)
MOSTS = ((0, 1), (1, 3), (1, 2), (2, 3), (3, 4), (1, 1), (3, 2), (2, 1), (5, 1))
BOUNDS = [(most, strict) for most in MOSTS for strict in (False, True)]
SECONDS = 5


def lag_lines(weights, running, turns):
    """The lags of all claimants behind 0 turns and behind each further one, to so many."""
    row, whole = long_row(running, turns), sum(weights)
    chosen, told = [0] * len(weights), [[Fraction(0)] * len(weights)]
    for turn, who in enumerate(row, 1):
        chosen[who] += 1
        told.append([Fraction(turn * weight, whole) - often for weight, often in zip(weights, chosen)])
    return told


def lag_far(weights, running, turns, who):
    """A lag behind very many turns."""
    return Fraction(turns * weights[who], sum(weights)) - count_at(running, who, turns)


def samples(number):
    """Weights and runnings of their claimants; about half of the laps have some claimants by their dues."""
    chance = random.Random(52)
    told = []
    for one in range(number):
        many = chance.randint(1, 6)
        head, lap = random_running(chance, many)
        weights = [chance.choice([0, 1, 2, 3, chance.randint(0, 1000)]) for who in range(many)]
        if chance.random() < 0.5 or sum(weights) == 0:
            weights = [lap.count(who) * 3 for who in range(many)]
        if many > 2 and chance.random() < 0.3:
            weights[:2] = weights[1::-1]
        told.append((weights, (head, lap)))
    return told


class Lags(unittest.TestCase, Refusals):
    def test_plainly(self):
        within = ("within", (-1, 2), 1, (0, 1), 0)
        self.assertEqual(lags_of([1, 1], ([], [0, 1])), [within, ("within", (0, 1), 0, (1, 2), 1)])
        self.assertEqual(lags_of([1, 2], ([], [0, 1])), [("drifts", (-1, 3)), ("drifts", (1, 3))])
        self.assertEqual(lags_of([1, 1], ([0, 0], [0, 1]))[0], ("within", (-3, 2), 3, (0, 1), 0))
        self.assertEqual(lags_of([1, 1], ([0, 0], [0, 1]))[1], ("within", (0, 1), 0, (3, 2), 3))
        self.assertEqual(lags_of([7], ([], [0])), [("within", (0, 1), 0, (0, 1), 0)])
        self.assertEqual(lags_of([0, 3], ([0], [1, 1]))[0], ("within", (-1, 1), 1, (0, 1), 0))
        self.assertEqual(lags_of([1, 0, 1], ([1], [1]))[1], ("drifts", (-1, 1)))
        told = [("drifts", (-1, 1)), ("drifts", (1, 1)), ("within", (-1, 2), 1, (1, 2), 3)]
        self.assertEqual(lags_of([1, 1, 2], ([], [2, 0, 0, 2])), told)

    def test_turn_by_turn(self):
        words = {"within": 0, "drifts": 0}
        for weights, running in samples(200):
            head, lap = running
            told = lags_of(weights, running)
            self.assertIs(type(told), list)
            self.assertEqual(len(told), len(weights))
            table = lag_lines(weights, running, len(head) + 4 * len(lap))
            for who, one in enumerate(told):
                lags = [line[who] for line in table]
                drift = lags[len(head) + len(lap)] - lags[len(head)]
                if drift == 0:
                    low, high = min(lags), max(lags)
                    self.assertEqual(one, ("within", pair(low), lags.index(low), pair(high), lags.index(high)))
                else:
                    self.assertEqual(one, ("drifts", pair(drift)))
                words[one[0]] += 1
        self.assertGreater(min(words.values()), 100)

    def test_no_plan_then_no_running(self):
        for weights in wrong_weights():
            for running in (([], [0]), None, ([], [5])):
                self.refused_at(NoPlan, 0, lags_of, weights, running)
                self.refused_at(NoPlan, 0, broken_at, weights, running, None)
        for running in wrong_runnings():
            self.refused(NoRunning, lags_of, [1] * 6, running)
            self.refused(NoRunning, broken_at, [1] * 6, running, BOUND)
            self.refused(NoRunning, broken_at, [1] * 6, running, None)

    def test_a_claimant_without_a_weight(self):
        for running in (([], [2]), ([2], [0, 1]), ([0, 1], [0, 5]), ([5, 0], [1])):
            self.refused(NoRunning, lags_of, [1, 1], running)
            self.refused(NoRunning, broken_at, [1, 1], running, BOUND)
            self.refused(NoRunning, broken_at, [1, 1], running, None)
        self.assertEqual(lags_of([1, 1, 0], ([2], [0, 1]))[2], ("within", (-1, 1), 1, (0, 1), 0))
        self.assertEqual(lags_of([1, 0, 0, 0, 0, 0], ([], [0])), [("within", (0, 1), 0, (0, 1), 0)] * 6)

    def test_what_is_told_and_handed_in_may_be_changed(self):
        weights, running = [1, 2], ([0], [1, 0, 1])
        first = lags_of(weights, running)
        kept = list(first)
        first.clear()
        self.assertEqual((weights, running), ([1, 2], ([0], [1, 0, 1])))
        self.assertEqual(lags_of(weights, running), kept)


class Broken(unittest.TestCase, Refusals):
    def test_plainly(self):
        self.assertIs(broken_at([1, 1], ([], [0, 1]), ((1, 2), False)), None)
        self.assertEqual(broken_at([1, 1], ([], [0, 1]), ((1, 2), True)), (1, 0))
        self.assertEqual(broken_at([1, 1], ([], [0, 1]), ((0, 1), True)), (0, 0))
        self.assertIs(broken_at([5], ([], [0]), ((0, 1), False)), None)
        self.assertEqual(broken_at([5], ([0, 0], [0]), ((0, 1), True)), (0, 0))
        self.assertEqual(broken_at([1, 1], ([0, 1, 0, 0], [1]), ((1, 2), False)), (4, 0))
        self.assertEqual(broken_at([0, 1, 1], ([1, 2], [1, 1, 2, 2]), ((1, 2), False)), (4, 1))
        self.assertEqual(broken_at([0, 2, 1], ([1], [2]), ((2, 3), False)), (3, 1))
        self.assertEqual(broken_at([1, 1, 0], ([], [0, 1, 0, 1, 2]), ((1, 1), False)), (10, 2))

    def test_turn_by_turn(self):
        chance = random.Random(530)
        places = {"head": 0, "lap": 0, "later": 0, "never": 0}
        for weights, running in samples(150):
            head, lap = running
            table = lag_lines(weights, running, len(head) + 30 * len(lap))
            some = [abs(lag) for line in table for lag in line]
            edges = [(pair(min(one, Fraction(300))), strict) for one in chance.sample(some, 2) for strict in (False, True)]
            for bound in chance.sample(BOUNDS, 3) + edges:
                broken = [
                    (turns, who) for turns, line in enumerate(table) for who, lag in enumerate(line)
                    if not lag_fits(bound, lag)
                ]
                told = broken_at(weights, running, bound)
                if broken:
                    self.assertEqual(told, broken[0], (weights, running, bound))
                    self.assertIs(type(told), tuple)
                    turns = told[0]
                    places["head" if turns <= len(head) else "lap" if turns <= len(head) + len(lap) else "later"] += 1
                elif told is None:
                    self.assertEqual({one[0] for one in lags_of(weights, running)}, {"within"})
                    places["never"] += 1
                else:
                    self.assertGreater(told[0], len(table) - 1)
                    self.assertFalse(lag_fits(bound, lag_far(weights, running, *told)))
        self.assertGreater(min(places.values()), 20)

    def test_none_where_no_lag_drifts(self):
        for weights, running in samples(100):
            told = lags_of(weights, running)
            if all(one[0] == "within" for one in told):
                most = max(max(abs(Fraction(*one[1])), Fraction(*one[3])) for one in told)
                self.assertIs(broken_at(weights, running, (pair(most), False)), None)
                self.assertIsNotNone(broken_at(weights, running, (pair(most), True)))

    def assert_first(self, weights, running, bound, told):
        """A lag is broken there, and all lags of the lap ahead of it are kept, so all earlier ones of its places, too."""
        head, lap = running
        last, first = told[0], told[0] - len(lap)
        line = [lag_far(weights, running, first, who) for who in range(len(weights))]
        for turn in range(first + 1, last + 1):
            self.assertTrue(all(lag_fits(bound, lag) for lag in line), (told, turn))
            chosen = lap[(turn - len(head) - 1) % len(lap)]
            line = [lag + Fraction(weights[who], sum(weights)) - (who == chosen) for who, lag in enumerate(line)]
        self.assertEqual([who for who, lag in enumerate(line) if not lag_fits(bound, lag)][0], told[1])

    def test_a_slow_drift(self):
        # One more lag of 1/1999 behind each two turns, above and below nought.
        self.assertEqual(lags_of([1000, 999], ([], [0, 1])), [("drifts", (1, 1999)), ("drifts", (-1, 1999))])
        self.assertEqual(lags_of([999, 1000], ([], [0, 1])), [("drifts", (-1, 1999)), ("drifts", (1, 1999))])
        self.assertEqual(broken_at([1000, 999], ([], [0, 1]), ((300, 1), False)), (2 * 300 * 1999 + 2, 0))
        self.assertEqual(broken_at([1000, 999], ([], [0, 1]), ((300, 1), True)), (2 * 300 * 1999, 0))
        self.assertEqual(broken_at([0, 1000, 999], ([], [1, 2]), ((300, 1), True)), (2 * 300 * 1999, 1))
        # Behind an odd number of turns the lag is less by nearly 1.
        self.assertEqual(broken_at([999, 1000], ([], [0, 1]), ((300, 1), True)), (2 * 299 * 1999 + 1999, 0))

    def test_a_drift_of_very_many_millions_of_turns(self):
        # One more lag of 1/1999 behind each 2001 turns, above and below nought.
        slow = [([1000, 999], [0, 1] * 1000 + [0]), ([999, 1000], [0, 1] * 1000 + [1]), ([0, 1000, 999], [1, 2] * 1000 + [1])]
        for weights, lap in slow:
            for head in ([], [1, 1, 0]):
                for most in ((300, 1), (300 * 10 ** 50 - 1, 10 ** 50), (1999, 7)):
                    for strict in (False, True):
                        start = time.monotonic()
                        told = broken_at(weights, (head, lap), (most, strict))
                        self.assertLess(time.monotonic() - start, SECONDS)
                        self.assertGreater(told[0], 10 ** 9)
                        self.assert_first(weights, (head, lap), (most, strict), told)

    def test_order_of_refusals(self):
        for thing in wrong_bounds():
            self.refused(NoBound, broken_at, [1, 1], ([], [0]), thing)


class Dealt(unittest.TestCase, Refusals):
    def assert_told(self, weights, bound):
        """What is told is right of itself; its word."""
        turns = sum(weights) // gcd(*weights)
        word, thing = told = dealt_for_ever(weights, bound)
        self.assertIs(type(told), tuple)
        if word == "running":
            self.assertIs(type(thing), tuple)
            head, lap = thing
            self.assertEqual(head, [])
            self.assertEqual((type(lap), len(lap)), (list, turns))
            self.assertIs(broken_at(weights, thing, bound), None)
            self.assertEqual({one[0] for one in lags_of(weights, thing)}, {"within"})
            table = lag_lines(weights, thing, 2 * turns)
            self.assertTrue(all(lag_fits(bound, lag) for line in table for lag in line))
        else:
            self.assertEqual(word, "paper")
            self.assertIs(shows_none(self.plan(weights, turns), bound, thing), True, (weights, bound, thing))
        return word

    def plan(self, weights, turns):
        """A plan in which weights stand for so many turns."""
        return Plan([(min(60, turns - ahead), weights) for ahead in range(0, turns, 60)])

    def test_plainly(self):
        self.assertEqual(self.assert_told([1, 1], ((1, 2), False)), "running")
        self.assertEqual(self.assert_told([1, 1], ((1, 2), True)), "paper")
        self.assertEqual(dealt_for_ever([7], ((0, 1), False)), ("running", ([], [0])))
        self.assertEqual(self.assert_told([7], ((0, 1), True)), "paper")
        self.assertEqual(dealt_for_ever([0, 8, 0], ((0, 1), False)), ("running", ([], [1])))
        self.assertEqual(sorted(dealt_for_ever([500, 1000], ((1, 1), False))[1][1]), [0, 1, 1])

    def test_just_where_some_row_of_a_round_keeps_the_bound(self):
        chance = random.Random(54)
        words = {"running": 0, "paper": 0}
        for number in range(60):
            many = chance.randint(1, 6)
            weights = [chance.randint(0, 9) for who in range(many - 1)] + [chance.randint(1, 9)]
            by = chance.choice([1, 2, 10])
            turns = sum(weights) // gcd(*weights)
            parts = {Fraction(turn * weight, sum(weights)) % 1 for turn in range(turns) for weight in weights}
            edges = [(pair(part), strict) for part in chance.sample(sorted(parts), min(2, len(parts))) for strict in (False, True)]
            for bound in chance.sample(BOUNDS, 3) + edges:
                word = self.assert_told([by * weight for weight in weights], bound)
                row = kept_by(self.plan(weights, turns), bound)[0] == "row"
                self.assertEqual(word, "running" if row else "paper", (weights, bound))
                words[word] += 1
        self.assertGreater(min(words.values()), 40)

    def test_wide_bounds_do_not_let_rows_drift(self):
        for weights in ([1, 1], [1, 2, 3], [5, 5, 5, 1], [0, 1, 1]):
            for most in ((1, 1), (3, 2), (2, 1), (300, 1)):
                for strict in (False, True):
                    self.assertEqual(self.assert_told(weights, (most, strict)), "running")

    def test_a_round_of_240_turns(self):
        for weights in ([41, 40, 40, 40, 40, 39], [1, 239], [478, 2], [7, 233], [100, 53, 47, 40]):
            start = time.monotonic()
            dealt_for_ever(weights, BOUND)
            self.assertLess(time.monotonic() - start, SECONDS)
            self.assertEqual(sum(weights) // gcd(*weights), 240)
            self.assertEqual(self.assert_told(weights, BOUND), "running")
            self.assertEqual(self.assert_told(weights, ((0, 1), False)), "paper")
            self.assert_told(weights, ((1, 2), False))

    def test_a_round_of_more_turns(self):
        for weights in ([1, 240], [241], [2, 480], [121, 120], [1000, 999, 1000], [1000] * 5 + [1]):
            for bound in (BOUND, ((0, 1), True), ((300, 1), False)):
                if len(weights) > 1:
                    self.refused(TooMany, dealt_for_ever, weights, bound)
        self.assertEqual(dealt_for_ever([241], ((0, 1), False)), ("running", ([], [0])))
        self.assertEqual(len(dealt_for_ever([1000] * 6, BOUND)[1][1]), 6)

    def test_no_plan_then_no_bound_then_too_many(self):
        for weights in wrong_weights():
            for bound in (BOUND, None):
                self.refused_at(NoPlan, 0, dealt_for_ever, weights, bound)
        for bound in wrong_bounds():
            self.refused(NoBound, dealt_for_ever, [1, 2], bound)
            self.refused(NoBound, dealt_for_ever, [1000, 999], bound)

    def test_what_is_told_and_handed_in_may_be_changed(self):
        weights = [1, 2, 1]
        word, (head, lap) = dealt_for_ever(weights, BOUND)
        kept = list(lap)
        head.append(0)
        lap.clear()
        self.assertEqual(weights, [1, 2, 1])
        self.assertEqual(dealt_for_ever(weights, BOUND), ("running", ([], kept)))
