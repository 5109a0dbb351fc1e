"""Points 2, 3, 20 and 23: rows that keep a bound, and papers that none does."""

import random
import unittest

from dueturns.errors import NoRow
from dueturns.papers import keeps, shows_none
from dueturns.plans import Plan
from tests.helper import Refusals, all_papers, all_rows, anything, dues, no_whole_between, pair, random_spells
from tests.helper import row_fits, slow_range

SPELLS = [(3, [1, 2, 0]), (4, [5, 6, 1])]
BOUNDS = [(most, strict) for most in ((0, 1), (1, 3), (1, 2), (2, 3), (3, 4), (1, 1), (5, 2)) for strict in (False, True)]


def slow_paper(spells, bound, paper):
    """Whether a paper is right, by its words."""
    word, a, b = paper
    told = dues(spells)
    early = [slow_range(bound, due) for due in told[a]]
    late = [slow_range(bound, due) for due in told[b]]
    if word == "over":
        return sum(max(0, after[0] - ahead[1]) for ahead, after in zip(early, late)) > b - a
    return sum(max(0, after[1] - ahead[0]) for ahead, after in zip(early, late)) < b - a


class Keeps(unittest.TestCase, Refusals):
    def test_plainly(self):
        plan = Plan([(4, [1, 1])])
        self.assertIs(keeps(plan, ((1, 2), False), [0, 1, 1, 0]), True)
        self.assertIs(keeps(plan, ((1, 2), True), [0, 1, 1, 0]), False)
        self.assertIs(keeps(plan, ((1, 2), False), [0, 0, 1, 1]), False)
        self.assertIs(keeps(plan, ((1, 1), False), [0, 0, 1, 1]), True)
        self.assertIs(keeps(plan, ((1, 1), True), [0, 0, 1, 1]), False)
        self.assertIs(keeps(plan, ((1, 1), False), [0, 0, 0, 1]), False)

    def test_behind_0_turns(self):
        for spells in (SPELLS, [(1, [1])]):
            self.assertIs(keeps(Plan(spells), ((0, 1), False), []), True)
            self.assertIs(keeps(Plan(spells), ((0, 1), True), []), False)
            self.assertIs(keeps(Plan(spells), ((1, 10 ** 50), True), []), True)
        self.assertIs(keeps(Plan([(3, [1])]), ((0, 1), False), [0, 0, 0]), True)
        self.assertIs(keeps(Plan([(3, [1])]), ((0, 1), True), [0, 0, 0]), False)

    def test_over_all_lags_of_rows_of_each_length(self):
        chance = random.Random(20)
        for many in range(1, 5):
            spells = random_spells(chance, many, 9)
            for time in range(20):
                row = [chance.randrange(many) for turn in range(chance.randint(0, 9))]
                for bound in BOUNDS:
                    self.assertIs(keeps(Plan(spells), bound, row), row_fits(spells, bound, row))

    def test_each_row_of_a_plan(self):
        spells = [(2, [1, 2, 3]), (3, [3, 0, 1])]
        for row in all_rows(spells):
            for bound in BOUNDS:
                self.assertIs(keeps(Plan(spells), bound, row), row_fits(spells, bound, row))

    def test_no_row(self):
        plan, bound = Plan(SPELLS), ((1, 2), False)
        for thing in anything() + [0, (0, 1), "ab"]:
            if type(thing) is not list:
                self.refused_at(NoRow, 0, keeps, plan, bound, thing)
        for thing in no_whole_between(0, 2):
            self.refused_at(NoRow, 2, keeps, plan, bound, [0, 1, thing, None])
        self.refused_at(NoRow, 7, keeps, plan, bound, [0] * 8)
        row = [0, 1]
        keeps(plan, bound, row)
        self.assertEqual(row, [0, 1])


class ShowsNone(unittest.TestCase, Refusals):
    def test_plainly(self):
        plan = Plan([(4, [1, 1])])
        self.assertIs(shows_none(plan, ((1, 3), False), ("over", 0, 1)), True)
        self.assertIs(shows_none(plan, ((1, 3), False), ("under", 0, 1)), True)
        self.assertIs(shows_none(plan, ((1, 3), False), ("over", 0, 2)), False)
        self.assertIs(shows_none(plan, ((1, 2), False), ("over", 0, 1)), False)
        self.assertIs(shows_none(plan, ((1, 2), True), ("over", 1, 1)), True)
        self.assertIs(shows_none(plan, ((0, 1), True), ("over", 0, 0)), True)
        self.assertIs(shows_none(plan, ((0, 1), True), ("under", 0, 0)), False)
        self.assertIs(shows_none(plan, ((0, 1), False), ("over", 0, 0)), False)

    def test_by_its_words(self):
        chance = random.Random(23)
        right = {"over": 0, "under": 0}
        for many in range(1, 5):
            for time in range(4):
                spells = random_spells(chance, many, chance.randint(1, 6))
                plan = Plan(spells)
                lags = [pair(due % 1) for line in dues(spells) for due in line]
                for bound in BOUNDS + [(most, strict) for most in chance.sample(lags, 2) for strict in (False, True)]:
                    for paper in all_papers(plan.turns()):
                        told = shows_none(plan, bound, paper)
                        self.assertIs(told, slow_paper(spells, bound, paper), (spells, bound, paper))
                        right[paper[0]] += told
        self.assertGreater(min(right.values()), 100)

    def test_a_right_paper_and_a_row_are_never_both_there(self):
        chance = random.Random(4)
        for time in range(12):
            spells = random_spells(chance, chance.randint(1, 3), chance.randint(1, 5))
            plan = Plan(spells)
            for bound in BOUNDS:
                some = any(row_fits(spells, bound, row) for row in all_rows(spells))
                right = any(shows_none(plan, bound, paper) for paper in all_papers(plan.turns()))
                self.assertIs(right, not some, (spells, bound))

    def test_what_is_no_paper(self):
        # Each paper over or under the turns 0 to 1 is right for this bound.
        plan, bound = Plan([(4, [1, 1])]), ((1, 3), False)
        told = anything() + [0, "over 0 1", ("over",), ("over", 0), ("over", 0, 1, 1), ["over", 0, 1], (0, 1, "over")]
        told += [(word, 0, 1) for word in anything() + [b"under", 0] if type(word) is not str]
        told += [(word, 0, 1) for word in ("", "Over", "over ", "UNDER", "und", "overunder")]
        told += [("over", thing, 1) for thing in anything() + [-1, 2, -10 ** 70]]
        told += [("over", 0, thing) for thing in anything() + [-1, 10 ** 70]]
        told += [("under", thing, 1) for thing in anything() + [-1, 2]]
        told += [("under", 0, thing) for thing in anything() + [-1, 5]]
        told += [(word, a, b) for word in ("over", "under") for a, b in ((-1, 0), (-2, -1), (4, 5), (5, 5), (3, 2), (0, 5))]
        for thing in told:
            self.assertIs(shows_none(plan, bound, thing), False)
        self.assertIs(shows_none(plan, bound, ("over", 0, 1)), True)
        self.assertIs(shows_none(plan, bound, ("under", 0, 1)), True)
