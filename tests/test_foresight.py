"""Points 2, 3, 4 and 42: the keeper that knows the plan."""

import random
import time
import unittest
from fractions import Fraction

from dueturns.errors import NoStep, NoTurns
from dueturns.foresight import Foresight
from dueturns.plans import Plan
from tests.helper import Refusals, lags, long_plans, pair, random_spells

SPELLS = [(3, [1, 2, 0]), (4, [5, 6, 1])]
SECONDS = 10


class ForesightTests(unittest.TestCase, Refusals):
    def assert_told(self, keeper, spells, row):
        """A keeper has just this row behind it, and keeps its promise."""
        self.assertEqual(keeper.told(), row)
        self.assertEqual(keeper.left(), sum(turns for turns, weights in spells) - len(row))
        owing = lags(spells, row)[-1]
        self.assertEqual(keeper.lags(), [pair(one) for one in owing])
        self.assertLess(max(abs(one) for one in owing), 1)

    def test_through_all_turns_of_many_plans(self):
        chance = random.Random(42)
        told = [random_spells(chance, many, turns) for many in range(1, 7) for turns in (1, 2, 7, 25, 40)]
        told += [[(1, [997 * (who == turn % many) + 1 for who in range(many)]) for turn in range(8)] for many in range(1, 7)]
        for spells in told:
            keeper, row = Foresight(Plan(spells)), []
            self.assert_told(keeper, spells, [])
            for turn in range(Plan(spells).turns()):
                row.append(keeper.step())
                self.assert_told(keeper, spells, row)
            self.refused(NoTurns, keeper.step)
            self.assert_told(keeper, spells, row)

    def test_the_greatest_plans_in_a_short_time(self):
        for spells in long_plans(random.Random(420), 4):
            start = time.monotonic()
            keeper = Foresight(Plan(spells))
            for turn in range(240):
                who = keeper.step()
                self.assertEqual(keeper.told()[-1], who)
                self.assertLess(max(abs(Fraction(*one)) for one in keeper.lags()), 1)
            self.assertLess(time.monotonic() - start, SECONDS)
            self.refused(NoTurns, keeper.step)
            self.assertLess(max(abs(one) for line in lags(spells, keeper.told()) for one in line), 1)
            for turn in range(240):
                self.assertEqual(keeper.left(), turn)
                keeper.back()
            self.refused(NoStep, keeper.back)

    def test_steps_taken_back_and_gone_again(self):
        chance = random.Random(421)
        for many in (1, 2, 3, 4, 5, 6) * 3:
            spells = random_spells(chance, many, chance.randint(1, 20))
            keeper, row = Foresight(Plan(spells)), []
            for deed in range(80):
                if chance.random() < 0.55:
                    if len(row) == Plan(spells).turns():
                        self.refused(NoTurns, keeper.step)
                    else:
                        row.append(keeper.step())
                elif row:
                    self.assertEqual(keeper.back(), row.pop())
                else:
                    self.refused(NoStep, keeper.back)
                self.assert_told(keeper, spells, row)
            while row:
                self.assertEqual(keeper.back(), row.pop())
                self.assert_told(keeper, spells, row)
            self.refused(NoStep, keeper.back)
            while keeper.left() > 0:
                row.append(keeper.step())
                self.assert_told(keeper, spells, row)

    def test_no_step_at_first(self):
        keeper = Foresight(Plan(SPELLS))
        self.refused(NoStep, keeper.back)
        self.assert_told(keeper, SPELLS, [])

    def test_behind_the_last_turn_a_step_may_be_taken_back(self):
        keeper = Foresight(Plan([(1, [0, 1])]))
        self.assertEqual(keeper.step(), 1)
        self.refused(NoTurns, keeper.step)
        self.assertEqual(keeper.back(), 1)
        self.assertEqual(keeper.step(), 1)

    def test_what_is_told_may_be_changed(self):
        spells = [(3, [1, 2, 0]), (4, [5, 6, 1])]
        plan = Plan(spells)
        keeper, row = Foresight(plan), []
        spells[0][1][0] = 9
        for turn in range(7):
            row.append(keeper.step())
            for told in (keeper.told(), keeper.lags()):
                told[0] = 77
                told.append(5)
            self.assert_told(keeper, SPELLS, row)
        self.assertEqual(plan.spells(), SPELLS)

    def test_two_keepers_of_one_plan_have_nothing_in_common(self):
        plan = Plan(SPELLS)
        one, other = Foresight(plan), Foresight(plan)
        row = [one.step() for turn in range(3)]
        self.assert_told(other, SPELLS, [])
        other.step()
        self.assert_told(one, SPELLS, row)
