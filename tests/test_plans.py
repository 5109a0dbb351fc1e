"""Points 2, 3, 11 and 12: plans, shares and dues."""

import random
import unittest
from copy import deepcopy
from fractions import Fraction

from dueturns.errors import NoClaimant, NoPlan, NoTurns
from dueturns.plans import Plan
from tests.helper import Refusals, anything, dues, no_whole_between, pair, random_spells, wrong_weights

GOOD = (3, [1, 2])
LONGEST = [(60, [1, 2]), (60, [0, 5]), (60, [3, 3]), (60, [1000, 0])]
EIGHT = [(turns, [turns, 1, 0]) for turns in range(1, 9)]


def wrong_spells():
    """Things that are no spell, of any kind."""
    told = anything() + [0, 1, 3, (), (3,), (3, [1, 2], 1), ([1, 2], 3), [3, [1, 2]], (3, (1, 2)), (3, 1, 2), "3x1,2"]
    told += [(turns, [1, 2]) for turns in no_whole_between(1, 60)]
    told += [(3, weights) for weights in wrong_weights()]
    return told


class MakingPlans(unittest.TestCase, Refusals):
    def test_a_plan_tells_its_spells_turns_and_claimants(self):
        plan = Plan([(3, [1, 2]), (10, [0, 5])])
        self.assertEqual(plan.spells(), [(3, [1, 2]), (10, [0, 5])])
        self.assertEqual((plan.turns(), plan.many()), (13, 2))
        self.assertIs(type(plan.spells()[0]), tuple)
        self.assertIs(type(plan.spells()[0][1]), list)

    def test_edges_stand(self):
        edges = [
            [(1, [1])], [(60, [1])], [(1, [1000])], [(1, [0, 0, 0, 0, 0, 1])], [(60, [1000] * 6)], LONGEST, EIGHT,
            [(1, [1])] * 8, [(30, [1, 0, 1000])] * 8, [(30, [1] * 6)] * 8, [(1, [1, 0]), (1, [0, 1])],
        ]
        for spells in edges:
            plan = Plan(spells)
            self.assertEqual(plan.spells(), spells)
            self.assertEqual(plan.turns(), sum(turns for turns, weights in spells))
            self.assertEqual(plan.many(), len(spells[0][1]))

    def test_what_is_no_list_is_refused_at_0(self):
        for thing in anything() + [0, 3, GOOD, (GOOD,), {0: GOOD}, {GOOD[0]: GOOD[1]}, "3x1,2", iter([GOOD])]:
            self.refused_at(NoPlan, 0, Plan, thing)
        self.refused_at(NoPlan, 0, Plan, [])

    def test_what_is_no_spell_is_refused_at_its_place(self):
        for ahead in range(8):
            for thing in wrong_spells():
                self.refused_at(NoPlan, ahead, Plan, [GOOD] * ahead + [thing])

    def test_the_first_wrong_thing_is_told(self):
        for ahead in range(7):
            for behind in (GOOD, None, (3, [1]), (61, [1, 2])):
                for thing in (None, (0, [1, 2]), (3, [1, True])):
                    self.refused_at(NoPlan, ahead, Plan, [GOOD] * ahead + [thing, behind])

    def test_other_many_weights_are_refused_at_their_place(self):
        for ahead in range(1, 8):
            for many in (1, 3, 4, 5, 6):
                self.refused_at(NoPlan, ahead, Plan, [GOOD] * ahead + [(3, [1] * many)])
        self.refused_at(NoPlan, 1, Plan, [(3, [1, 2, 3]), (3, [1, 2]), (3, [1, 2])])

    def test_too_many_turns_are_refused_at_their_place(self):
        self.refused_at(NoPlan, 4, Plan, LONGEST + [(1, [1, 2])])
        self.refused_at(NoPlan, 5, Plan, [(1, [1, 2])] + LONGEST[1:] + [(59, [1, 2]), (1, [1, 2])])
        self.refused_at(NoPlan, 7, Plan, [(30, [1, 2])] * 7 + [(31, [1, 2])])
        self.refused_at(NoPlan, 4, Plan, [(59, [1, 2])] * 5 + [(1, [1, 2])])
        self.assertEqual(Plan([(59, [1, 2])] * 4 + [(4, [1, 2])]).turns(), 240)

    def test_the_ninth_is_refused_at_8(self):
        for many in (9, 10, 1000):
            self.refused_at(NoPlan, 8, Plan, [GOOD] * many)
        self.refused_at(NoPlan, 8, Plan, [GOOD] * 8 + [None])
        self.refused_at(NoPlan, 3, Plan, [GOOD] * 3 + [None] + [GOOD] * 8)

    def test_what_is_made_good_is_taken(self):
        spells = [GOOD, (3, [1, -1])]
        self.refused_at(NoPlan, 1, Plan, spells)
        self.assertEqual(spells, [GOOD, (3, [1, -1])])
        spells[1][1][1] = 1
        self.assertEqual(Plan(spells).turns(), 6)

    def test_nothing_hangs_on_what_was_handed_in(self):
        spells = [(3, [1, 2]), (4, [5, 6])]
        before = deepcopy(spells)
        plan = Plan(spells)
        self.assertEqual(spells, before)
        spells[0][1][0] = 900
        spells[1][1].append(3)
        spells.pop()
        self.assertEqual(plan.spells(), before)
        self.assertEqual((plan.turns(), plan.many()), (7, 2))
        self.assertEqual((plan.share(1, 0), plan.due(7, 0)), ((1, 3), (31, 11)))

    def test_what_is_told_is_new(self):
        plan = Plan(EIGHT)
        told = plan.spells()
        told[0][1][0] = 77
        told[1][1].clear()
        del told[2:]
        self.assertEqual(plan.spells(), EIGHT)
        self.assertEqual(plan.due(36, 0), pair(dues(EIGHT)[36][0]))


class CuttingAndJoining(unittest.TestCase, Refusals):
    def test_cut_to_each_number_of_turns(self):
        for spells in (EIGHT, LONGEST, [(5, [1])]):
            plan = Plan(spells)
            for turns in range(1, plan.turns() + 1):
                cut = plan.cut(turns)
                self.assertIsInstance(cut, Plan)
                self.assertEqual((cut.turns(), cut.many()), (turns, plan.many()))
                for who in range(plan.many()):
                    self.assertEqual(cut.due(turns, who), plan.due(turns, who))
                    self.assertEqual(cut.share(turns, who), plan.share(turns, who))
            self.assertEqual(plan.spells(), spells)

    def test_spells_of_a_cut(self):
        plan = Plan([(3, [1, 2]), (4, [5, 6]), (2, [1, 0])])
        self.assertEqual(plan.cut(1).spells(), [(1, [1, 2])])
        self.assertEqual(plan.cut(3).spells(), [(3, [1, 2])])
        self.assertEqual(plan.cut(4).spells(), [(3, [1, 2]), (1, [5, 6])])
        self.assertEqual(plan.cut(7).spells(), [(3, [1, 2]), (4, [5, 6])])
        self.assertEqual(plan.cut(9).spells(), plan.spells())

    def test_no_turns_to_cut_to(self):
        for spells in (EIGHT, LONGEST, [(1, [1])]):
            plan = Plan(spells)
            for turns in no_whole_between(1, plan.turns()):
                self.refused(NoTurns, plan.cut, turns)
            self.assertEqual(plan.spells(), spells)

    def test_joined(self):
        one, other = Plan([(3, [1, 2])]), Plan([(4, [5, 6]), (2, [1, 0])])
        joined = one.joined(other)
        self.assertIsInstance(joined, Plan)
        self.assertEqual(joined.spells(), [(3, [1, 2]), (4, [5, 6]), (2, [1, 0])])
        self.assertEqual(other.joined(one).spells(), [(4, [5, 6]), (2, [1, 0]), (3, [1, 2])])
        self.assertEqual(one.joined(one).spells(), [(3, [1, 2]), (3, [1, 2])])
        self.assertEqual((one.turns(), other.turns()), (3, 6))
        joined.spells()[0][1].append(1)
        self.assertEqual((one.many(), joined.many()), (2, 2))

    def test_joined_at_the_edges(self):
        self.assertEqual(Plan(LONGEST[:2]).joined(Plan(LONGEST[2:])).turns(), 240)
        self.assertEqual(Plan(EIGHT[:5]).joined(Plan(EIGHT[5:])).spells(), EIGHT)

    def test_joined_refuses_through_both(self):
        one, three = Plan([GOOD]), Plan([GOOD] * 3)
        self.refused_at(NoPlan, 1, one.joined, Plan([(1, [1, 2, 3])]))
        self.refused_at(NoPlan, 3, three.joined, Plan([(1, [1])]))
        self.refused_at(NoPlan, 8, three.joined, Plan([GOOD] * 6))
        self.refused_at(NoPlan, 8, Plan([GOOD] * 8).joined, one)
        self.refused_at(NoPlan, 4, Plan(LONGEST).joined, one)
        self.refused_at(NoPlan, 4, one.joined, Plan(LONGEST))
        self.refused_at(NoPlan, 5, Plan(LONGEST[:3]).joined, Plan([(59, [1, 2]), (1, [1, 2]), (1, [1, 2])]))
        self.assertEqual(three.joined(one).turns(), 12)


class SharesAndDues(unittest.TestCase, Refusals):
    def assert_dues(self, spells):
        plan, told = Plan(spells), dues(spells)
        for turns in range(plan.turns() + 1):
            for who in range(plan.many()):
                self.assertEqual(plan.due(turns, who), pair(told[turns][who]))
                if turns > 0:
                    self.assertEqual(plan.share(turns, who), pair(told[turns][who] - told[turns - 1][who]))

    def test_plainly(self):
        plan = Plan([(3, [1, 2]), (10, [0, 5])])
        self.assertEqual([plan.share(turn, 0) for turn in (1, 3, 4, 13)], [(1, 3), (1, 3), (0, 1), (0, 1)])
        self.assertEqual([plan.due(turns, 0) for turns in (0, 1, 3, 4, 13)], [(0, 1), (1, 3), (1, 1), (1, 1), (1, 1)])
        self.assertEqual([plan.due(turns, 1) for turns in (0, 2, 3, 13)], [(0, 1), (4, 3), (2, 1), (12, 1)])

    def test_in_each_spell_and_across(self):
        chance = random.Random(12)
        for spells in (EIGHT, LONGEST, [(1, [1])], [(30, [1000, 999, 998, 997, 996, 995])] * 8):
            self.assert_dues(spells)
        for many in range(1, 7):
            for time in range(5):
                self.assert_dues(random_spells(chance, many, chance.randint(1, 40)))

    def test_dues_together_are_the_turns(self):
        spells = random_spells(random.Random(5), 6, 240)
        plan = Plan(spells)
        for turns in range(241):
            self.assertEqual(sum(Fraction(*plan.due(turns, who)) for who in range(6)), turns)

    def test_no_turns_then_no_claimant(self):
        plan = Plan([(3, [1, 2]), (4, [5, 6])])
        for turns in no_whole_between(0, 7):
            for who in (0, 1, 2, -1, None, True):
                self.refused(NoTurns, plan.due, turns, who)
        for turn in no_whole_between(1, 7):
            for who in (0, 1, 2, -1, None, True):
                self.refused(NoTurns, plan.share, turn, who)
        for who in no_whole_between(0, 1):
            for turns in (0, 1, 7):
                self.refused(NoClaimant, plan.due, turns, who)
            for turn in (1, 4, 7):
                self.refused(NoClaimant, plan.share, turn, who)

    def test_claimants_of_plans_with_one_and_six(self):
        self.refused(NoClaimant, Plan([(1, [1])]).due, 0, 1)
        self.refused(NoClaimant, Plan([(1, [1] * 6)]).due, 1, 6)
        self.assertEqual(Plan([(1, [1] * 6)]).due(1, 5), (1, 6))

    def test_answers_are_alike(self):
        plan = Plan(EIGHT)
        first = [plan.due(turns, who) for turns in range(37) for who in range(3)]
        plan.cut(5)
        plan.share(36, 2)
        self.refused(NoTurns, plan.due, 37, 0)
        self.refused(NoPlan, plan.joined, plan)
        self.assertEqual([plan.due(turns, who) for turns in range(37) for who in range(3)], first)
        self.assertEqual(plan.spells(), EIGHT)
