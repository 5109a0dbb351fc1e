"""Points 2, 3, 4 and 80 to 84: going on from a beginning."""

import random
import time
import unittest
from fractions import Fraction
from functools import lru_cache

from dueturns.errors import NoBound, NoClaimant, NoRow, NoTurns
from dueturns.goingon import begun_range, each_next, fairest_on, going_on, shows_stuck
from dueturns.least import fairest
from dueturns.plans import Plan
from dueturns.ranges import range_of
from tests.helper import Refusals, all_papers, all_rows, anything, dues, lag_fits, lags, long_plans, no_whole_between
from tests.helper import pair, slow_range, small_spells, wrong_bounds

SPELLS = [(3, [1, 2, 0]), (2, [5, 6, 1])]
BOUND = ((1, 1), True)
MOSTS = ((0, 1), (1, 3), (1, 2), (2, 3), (3, 4), (1, 1), (5, 4), (3, 2), (2, 1), (3, 1), (7, 1), (300, 1))
BOUNDS = [(most, strict) for most in MOSTS for strict in (False, True)]
SECONDS = 10


class Small:
    """A plan with few rows, and all of them with their lags."""

    def __init__(self, spells):
        self.spells = spells
        self.plan = Plan(spells)
        self.rows = [(row, lags(spells, row)) for row in all_rows(spells)]

    def goings_on(self, bound, begun):
        """All goings on of a beginning."""
        told = [(row, table[len(begun) + 1:]) for row, table in self.rows if row[:len(begun)] == begun]
        return [row for row, table in told if all(lag_fits(bound, lag) for line in table for lag in line)]

    def least_on(self, begun):
        """The least fraction over all goings on of a beginning."""
        told = [table[len(begun) + 1:] for row, table in self.rows if row[:len(begun)] == begun]
        return min(max(abs(lag) for line in table for lag in line) for table in told)


@lru_cache
def samples():
    """Small plans, each with beginnings and bounds, some of them just at the edge of what there is."""
    chance = random.Random(80)
    told = []
    for spells in small_spells(chance, 40) + [[(1, [1])], [(2, [0, 1])], [(1, [0, 0, 5])]]:
        small = Small(spells)
        turns, many = small.plan.turns(), small.plan.many()
        for length in {0, 1, 2, turns // 2, turns - 1, turns} & set(range(turns + 1)):
            good = fairest(small.plan)[1][:length]
            for begun in (good, [chance.randrange(many) for turn in range(length)], [chance.randrange(many)] * length):
                bounds = chance.sample(BOUNDS, 3)
                if length < turns:
                    edge = pair(small.least_on(begun))
                    bounds += [(edge, False), (edge, True)]
                told += [(small, begun, bound) for bound in bounds]
    return told


def begun_by_words(spells, bound, begun, turns):
    """The ranges of a beginning, by their words."""
    chosen = [begun.count(who) for who in range(len(spells[0][1]))]
    if turns == len(begun):
        return [(often, often) for often in chosen]
    ranges = [slow_range(bound, due) for due in dues(spells)[turns]]
    return [(low if low > often else often, high) for often, (low, high) in zip(chosen, ranges)]


def stuck_by_words(spells, bound, begun, paper):
    """Whether a paper is right for a beginning, by its words."""
    word, a, b = paper
    if a < len(begun):
        return False
    early, late = begun_by_words(spells, bound, begun, a), begun_by_words(spells, bound, begun, b)
    if word == "over":
        return sum(max(0, after[0] - ahead[1]) for ahead, after in zip(early, late)) > b - a
    return sum(max(0, after[1] - ahead[0]) for ahead, after in zip(early, late)) < b - a


class BegunRanges(unittest.TestCase, Refusals):
    def test_plainly(self):
        plan, bound = Plan([(4, [1, 1])]), ((1, 2), False)
        self.assertEqual(begun_range(plan, bound, [0], 1, 0), (1, 1))
        self.assertEqual(begun_range(plan, bound, [0], 2, 0), (1, 1))
        self.assertEqual(begun_range(plan, bound, [0], 3, 0), (1, 2))
        self.assertEqual(begun_range(plan, bound, [0, 0, 0], 3, 0), (3, 3))
        self.assertEqual(begun_range(plan, bound, [0, 0, 0], 3, 1), (0, 0))
        self.assertEqual(begun_range(plan, bound, [0, 0, 0], 4, 0), (3, 2))
        self.assertEqual(begun_range(plan, bound, [0, 0, 0], 4, 1), (2, 2))
        self.assertEqual(begun_range(plan, ((0, 1), True), [], 0, 0), (0, 0))
        self.assertEqual(begun_range(plan, ((0, 1), True), [], 1, 0), (1, 0))
        self.assertEqual(begun_range(plan, ((300, 1), True), [1], 1, 0), (0, 0))

    def test_by_their_words(self):
        for small, begun, bound in samples()[::3]:
            for turns in range(len(begun), small.plan.turns() + 1):
                told = [begun_range(small.plan, bound, begun, turns, who) for who in range(small.plan.many())]
                self.assertEqual(told, begun_by_words(small.spells, bound, begun, turns))
                self.assertEqual({type(one) for one in told}, {tuple})

    def test_of_no_turns_they_are_those_of_the_plan_but_at_the_start(self):
        plan = Plan(SPELLS)
        for bound in BOUNDS:
            for who in range(3):
                self.assertEqual(begun_range(plan, bound, [], 0, who), (0, 0))
                for turns in range(1, 6):
                    self.assertEqual(begun_range(plan, bound, [], turns, who), range_of(plan, bound, turns, who))

    def test_refusals_in_their_order(self):
        plan = Plan(SPELLS)
        for length in (0, 2, 5):
            for turns in no_whole_between(length, 5):
                for who in (0, 3, None):
                    self.refused(NoTurns, begun_range, plan, BOUND, [1] * length, turns, who)
            for who in no_whole_between(0, 2):
                for turns in (length, 5):
                    self.refused(NoClaimant, begun_range, plan, BOUND, [1] * length, turns, who)
        self.refused(NoTurns, begun_range, plan, BOUND, [1, 0], 1, 0)


class Goings(unittest.TestCase, Refusals):
    def assert_told(self, spells, bound, begun):
        """What is told of going on is right of itself; its word."""
        plan = Plan(spells)
        told = going_on(plan, bound, begun)
        self.assertIs(type(told), tuple)
        word, thing = told
        if word == "row":
            self.assert_going_on(spells, bound, begun, thing)
        else:
            self.assertEqual(word, "paper")
            self.assertGreaterEqual(thing[1], len(begun))
            self.assertIs(shows_stuck(plan, bound, begun, thing), True, (spells, bound, begun, thing))
            self.assertIs(stuck_by_words(spells, bound, begun, thing), True)
        return word

    def assert_going_on(self, spells, bound, begun, row):
        """A row is a going on of a beginning."""
        self.assertIs(type(row), list)
        self.assertEqual(row[:len(begun)], begun)
        table = lags(spells, row)
        self.assertEqual(len(table), len(dues(spells)))
        self.assertTrue(all(lag_fits(bound, lag) for line in table[len(begun) + 1:] for lag in line))

    def test_plainly(self):
        plan, bound = Plan([(4, [1, 1])]), ((1, 2), False)
        self.assertEqual(going_on(plan, bound, [0, 1, 1]), ("row", [0, 1, 1, 0]))
        # The beginning is bad, but the next turn makes it good.
        self.assertEqual(going_on(plan, bound, [0, 0]), ("row", [0, 0, 1, 1]))
        self.assertEqual(self.assert_told([(4, [1, 1])], ((1, 2), True), [0, 0]), "paper")
        self.assertEqual(self.assert_told([(4, [1, 1])], bound, [0, 0, 0]), "paper")

    def test_against_all_rows_of_small_plans(self):
        words = {"row": 0, "paper": 0}
        for small, begun, bound in samples():
            some = len(small.goings_on(bound, begun)) > 0
            word = self.assert_told(small.spells, bound, begun)
            self.assertEqual(word, "row" if some else "paper", (small.spells, bound, begun))
            words[word] += 1
        self.assertGreater(min(words.values()), 200)

    def test_papers_by_their_words_and_just_one_of_both(self):
        right = {"over": 0, "under": 0}
        for small, begun, bound in samples()[::4]:
            shown = []
            for paper in all_papers(small.plan.turns()):
                told = shows_stuck(small.plan, bound, begun, paper)
                self.assertIs(told, stuck_by_words(small.spells, bound, begun, paper))
                right[paper[0]] += told
                shown.append(told)
            self.assertIs(any(shown), len(small.goings_on(bound, begun)) == 0)
        self.assertGreater(min(right.values()), 50)

    def test_beginnings_of_all_turns(self):
        for small, begun, bound in samples():
            if len(begun) == small.plan.turns():
                told = going_on(small.plan, bound, begun)
                self.assertEqual(told, ("row", begun))
                self.assertIsNot(told[1], begun)
                for paper in all_papers(small.plan.turns()):
                    self.assertIs(shows_stuck(small.plan, bound, begun, paper), False)

    def test_what_is_no_paper(self):
        plan, bound, begun = Plan([(4, [1, 1])]), ((1, 3), False), [0]
        self.assertIs(shows_stuck(plan, bound, [], ("over", 0, 1)), True)
        self.assertIs(shows_stuck(plan, bound, begun, ("over", 3, 3)), True)
        self.assertIs(shows_stuck(plan, bound, begun, ("over", 0, 1)), False)
        told = anything() + [0, "over 3 3", ("over",), ("over", 3), ("over", 3, 3, 3), ["over", 3, 3], (3, 3, "over")]
        told += [(word, 3, 3) for word in anything() if type(word) is not str]
        told += [(word, 3, 3) for word in ("", "Over", "over ", "UNDER", b"over", None, 0, 3)]
        told += [("over", thing, 3) for thing in anything() + [-1, 4]] + [("over", 3, thing) for thing in anything() + [2, 5]]
        for thing in told:
            self.assertIs(shows_stuck(plan, bound, begun, thing), False)

    def test_the_greatest_plans_in_a_short_time(self):
        chance = random.Random(81)
        for spells in long_plans(chance, 3):
            plan = Plan(spells)
            fair = fairest(plan)[1]
            for begun in ([], fair[:1], fair[:100], [chance.randrange(6) for turn in range(60)], [3] * 200, fair[:239], fair):
                for bound in (((3, 4), False), ((1, 1), True), ((20, 1), False), ((300, 1), True)):
                    start = time.monotonic()
                    word, thing = going_on(plan, bound, begun)
                    self.assertLess(time.monotonic() - start, SECONDS)
                    if word == "row":
                        self.assert_going_on(spells, bound, begun, thing)
                    else:
                        self.assertIs(shows_stuck(plan, bound, begun, thing), True)

    def test_what_is_told_and_handed_in_may_be_changed(self):
        plan, begun = Plan(SPELLS), [1, 0]
        word, row = going_on(plan, BOUND, begun)
        kept = list(row)
        row.clear()
        self.assertEqual(begun, [1, 0])
        self.assertEqual(going_on(plan, BOUND, begun), ("row", kept))
        self.assertEqual(plan.spells(), SPELLS)


class Nexts(unittest.TestCase, Refusals):
    def assert_told(self, spells, bound, begun):
        """What is told of each claimant is right of itself; the words."""
        plan = Plan(spells)
        told = each_next(plan, bound, begun)
        self.assertIs(type(told), list)
        self.assertEqual(len(told), plan.many())
        for who, (word, thing) in enumerate(told):
            after = begun + [who]
            line = lags(spells, after)[-1]
            broken = [one for one, lag in enumerate(line) if not lag_fits(bound, lag)]
            if word == "row":
                Goings.assert_going_on(self, spells, bound, begun, thing)
                self.assertEqual(thing[:len(after)], after)
            elif word == "lag":
                self.assertEqual(thing, broken[0])
            else:
                self.assertEqual((word, broken), ("paper", []))
                self.assertIs(shows_stuck(plan, bound, after, thing), True)
                self.assertGreaterEqual(thing[1], len(after))
        return [word for word, thing in told]

    def test_plainly(self):
        plan, bound = Plan([(4, [1, 1])]), ((1, 2), False)
        self.assertEqual([word for word, thing in each_next(plan, bound, [])], ["row", "row"])
        self.assertEqual(each_next(plan, bound, [0])[0], ("lag", 0))
        self.assertEqual(each_next(plan, bound, [0, 1, 1]), [("row", [0, 1, 1, 0]), ("lag", 0)])
        self.assertEqual(each_next(Plan([(2, [1, 1, 1])]), ((2, 3), False), [0])[0], ("lag", 0))
        self.assertEqual(each_next(Plan([(2, [2, 1, 1])]), ((1, 2), False), [])[2], ("lag", 2))
        self.assertEqual(each_next(Plan([(2, [1, 1, 2])]), ((1, 2), False), [])[1], ("lag", 1))

    def test_against_all_rows_of_small_plans(self):
        words = {"row": 0, "lag": 0, "paper": 0}
        for small, begun, bound in samples():
            if len(begun) < small.plan.turns():
                can = {row[len(begun)] for row in small.goings_on(bound, begun)}
                for who, word in enumerate(self.assert_told(small.spells, bound, begun)):
                    self.assertIs(word == "row", who in can, (small.spells, bound, begun))
                    words[word] += 1
        self.assertGreater(min(words.values()), 20)

    def test_the_greatest_plans_in_a_short_time(self):
        for spells in long_plans(random.Random(82), 2):
            plan = Plan(spells)
            most, row, paper = fairest(plan)
            for length in (0, 1, 100, 239):
                for bound in ((most, False), BOUND, ((300, 1), False)):
                    start = time.monotonic()
                    each_next(plan, bound, row[:length])
                    self.assertLess(time.monotonic() - start, SECONDS)
                    words = self.assert_told(spells, bound, row[:length])
                    self.assertEqual(words[row[length]], "row")

    def test_what_is_told_may_be_changed(self):
        plan, begun = Plan(SPELLS), [1]
        first = each_next(plan, ((2, 1), False), begun)
        rows = [list(row) for word, row in first]
        for word, row in first:
            row.clear()
        first.clear()
        self.assertEqual(begun, [1])
        self.assertEqual(each_next(plan, ((2, 1), False), begun), [("row", row) for row in rows])


class FairestOn(unittest.TestCase, Refusals):
    def assert_told(self, spells, begun):
        """What is told is right of itself; the least fraction."""
        told = fairest_on(Plan(spells), begun)
        self.assertIs(type(told), tuple)
        most, row, paper = told
        Goings.assert_going_on(self, spells, (most, False), begun, row)
        self.assertEqual(max(abs(lag) for line in lags(spells, row)[len(begun) + 1:] for lag in line), Fraction(*most))
        self.assertGreaterEqual(paper[1], len(begun))
        self.assertIs(shows_stuck(Plan(spells), (most, True), begun, paper), True, (spells, begun, told))
        return most

    def test_plainly(self):
        self.assertEqual(self.assert_told([(4, [1, 1])], []), (1, 2))
        self.assertEqual(self.assert_told([(4, [1, 1])], [0, 0]), (1, 2))
        self.assertEqual(self.assert_told([(4, [1, 1])], [0, 0, 0]), (1, 1))
        self.assertEqual(self.assert_told([(4, [1, 1])], [0, 1, 0]), (0, 1))
        self.assertEqual(self.assert_told([(5, [3])], [0, 0]), (0, 1))
        self.assertEqual(self.assert_told([(5, [0, 3])], [0, 0, 0, 0]), (4, 1))
        self.assertEqual(self.assert_told([(60, [0, 3])] * 4, [0] * 239), (239, 1))

    def test_against_all_rows_of_small_plans(self):
        great = 0
        for small, begun, bound in samples()[::2]:
            if len(begun) < small.plan.turns():
                most = self.assert_told(small.spells, begun)
                self.assertEqual(most, pair(small.least_on(begun)), (small.spells, begun))
                great += most[0] > most[1]
        self.assertGreater(great, 20)

    def test_of_no_turns_it_is_the_least_worst(self):
        for spells in small_spells(random.Random(830), 30):
            self.assertEqual(self.assert_told(spells, []), fairest(Plan(spells))[0])

    def test_the_greatest_plans_in_a_short_time(self):
        chance = random.Random(83)
        for spells in long_plans(chance, 2):
            plan = Plan(spells)
            fair = fairest(plan)[1]
            for begun in ([], fair[:100], [chance.randrange(6) for turn in range(120)], [3] * 200, [5] * 239):
                start = time.monotonic()
                fairest_on(plan, begun)
                self.assertLess(time.monotonic() - start, SECONDS)
                self.assert_told(spells, begun)

    def test_what_is_told_may_be_changed(self):
        plan, begun = Plan(SPELLS), [2, 2]
        most, row, paper = fairest_on(plan, begun)
        kept = list(row)
        row.clear()
        self.assertEqual(begun, [2, 2])
        self.assertEqual(fairest_on(plan, begun), (most, kept, paper))


class WhatIsRefused(unittest.TestCase, Refusals):
    def calls(self):
        """All calls of a bound and a row, with what else is handed in wrong, too."""
        plan = Plan(SPELLS)
        return [
            lambda bound, row: begun_range(plan, bound, row, None, None), lambda bound, row: going_on(plan, bound, row),
            lambda bound, row: begun_range(plan, bound, row, 5, 0), lambda bound, row: shows_stuck(plan, bound, row, None),
            lambda bound, row: shows_stuck(plan, bound, row, ("over", 5, 5)), lambda bound, row: each_next(plan, bound, row),
        ]

    def test_no_bound_ahead_of_all_others(self):
        for thing in wrong_bounds():
            for call in self.calls():
                for row in ([], None, [1] * 5, [7]):
                    self.refused(NoBound, call, thing, row)

    def test_no_row(self):
        plan = Plan(SPELLS)
        for call in self.calls() + [lambda bound, row: fairest_on(plan, row)]:
            for thing in anything() + [0, (0, 1), (1,) * 5, "ab"]:
                if type(thing) is not list:
                    self.refused_at(NoRow, 0, call, BOUND, thing)
            for thing in no_whole_between(0, 2):
                for ahead in range(5):
                    self.refused_at(NoRow, ahead, call, BOUND, [1] * ahead + [thing, None])
                self.refused_at(NoRow, 4, call, BOUND, [1] * 4 + [thing])
            self.refused_at(NoRow, 5, call, BOUND, [1] * 6)
            self.refused_at(NoRow, 5, call, BOUND, [1] * 5 + [None])

    def test_no_next_turn(self):
        for small, begun, bound in samples():
            if len(begun) == small.plan.turns():
                self.refused(NoTurns, each_next, small.plan, bound, begun)
                self.refused(NoTurns, fairest_on, small.plan, begun)

    def test_what_is_made_good_is_taken(self):
        plan, row = Plan(SPELLS), [1, 3]
        self.refused_at(NoRow, 1, going_on, plan, BOUND, row)
        self.assertEqual(row, [1, 3])
        row[1] = 0
        self.assertEqual(going_on(plan, BOUND, row)[1][:2], [1, 0])
