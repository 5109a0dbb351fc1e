"""Points 2, 3, 50 and 51: endless rows."""

import random
import time
import unittest
from copy import deepcopy

from dueturns.errors import NoClaimant, NoNumber, NoRunning
from dueturns.runnings import choice_at, count_at, first_apart, least_of, turn_of
from tests.helper import Refusals, long_row, no_whole_between, random_running, wrong_runnings

MOST = 10 ** 40
SECONDS = 5


def samples(number):
    """Runnings, so many."""
    chance = random.Random(50)
    return [random_running(chance, chance.randint(1, 6)) for one in range(number)]


class Choices(unittest.TestCase, Refusals):
    def test_plainly(self):
        running = ([0, 1], [2, 0, 2])
        self.assertEqual([choice_at(running, turn) for turn in range(1, 10)], [0, 1, 2, 0, 2, 2, 0, 2, 2])
        self.assertEqual([count_at(running, 2, turns) for turns in range(9)], [0, 0, 0, 1, 1, 2, 3, 3, 4])
        self.assertEqual([turn_of(running, 2, times) for times in range(1, 6)], [3, 5, 6, 8, 9])
        self.assertEqual([turn_of(running, 1, times) for times in (1, 2, MOST)], [2, None, None])
        self.assertIs(turn_of(running, 5, 1), None)
        self.assertEqual(count_at(running, 5, MOST), 0)

    def test_turn_by_turn(self):
        for running in samples(60):
            far = len(running[0]) + 3 * len(running[1]) + 2
            row = long_row(running, far)
            self.assertEqual([choice_at(running, turn) for turn in range(1, far + 1)], row)
            for who in range(6):
                told = [count_at(running, who, turns) for turns in range(far + 1)]
                self.assertEqual(told, [row[:turns].count(who) for turns in range(far + 1)])
                turns = [turn for turn, one in enumerate(row, 1) if one == who]
                self.assertEqual([turn_of(running, who, times) for times in range(1, len(turns) + 1)], turns)
                if who not in running[1]:
                    self.assertIs(turn_of(running, who, len(turns) + 1), None)
                    self.assertIs(turn_of(running, who, MOST), None)

    def test_far_behind(self):
        running = ([0] * 3, [1, 2, 1, 1])
        self.assertEqual([choice_at(running, 3 + 4 * 10 ** 39 + place) for place in (1, 2, 3, 4)], [1, 2, 1, 1])
        self.assertEqual(choice_at(([], [0, 1]), MOST), 1)
        self.assertEqual(choice_at(([5], [0, 1]), MOST), 0)
        self.assertEqual(count_at(running, 1, 3 + 4 * 10 ** 39), 3 * 10 ** 39)
        self.assertEqual(count_at(running, 1, 3 + 4 * 10 ** 39 + 2), 3 * 10 ** 39 + 1)
        self.assertEqual(count_at(([], [0, 1]), 1, MOST), MOST // 2)
        self.assertEqual(count_at(running, 0, MOST), 3)
        self.assertEqual(turn_of(running, 1, 3 * 10 ** 39), 3 + 4 * 10 ** 39)
        self.assertEqual(turn_of(running, 1, 3 * 10 ** 39 + 1), 3 + 4 * 10 ** 39 + 1)
        self.assertEqual(turn_of(running, 2, MOST), 3 + 4 * MOST - 2)
        self.assertEqual(turn_of(([], [4]), 4, MOST), MOST)

    def test_counts_and_turns_lead_to_one_another(self):
        chance = random.Random(51)
        for running in samples(40):
            for number in (1, 2, chance.randint(1, MOST), MOST):
                who = choice_at(running, number)
                often = count_at(running, who, number)
                self.assertEqual(turn_of(running, who, often), number)
                self.assertEqual(count_at(running, who, number - 1), often - 1)

    def test_long_ones_in_a_short_time(self):
        running = ([turn % 5 for turn in range(20000)], [turn % 6 for turn in range(30000)])
        start = time.monotonic()
        for number in (1, 20000, 20001, 50000, 50001, MOST):
            who = choice_at(running, number)
            self.assertEqual(turn_of(running, who, count_at(running, who, number)), number)
        self.assertEqual(len(least_of(running)[1]), 6)
        self.assertEqual(first_apart(running, (running[0], running[1] * 2)), None)
        self.assertEqual(first_apart(running, (running[0], running[1] + [5])), 50001)
        self.assertLess(time.monotonic() - start, SECONDS)

    def test_no_running_ahead_of_all_others(self):
        for thing in wrong_runnings():
            self.refused(NoRunning, choice_at, thing, 1)
            self.refused(NoRunning, choice_at, thing, None)
            for call in (count_at, turn_of):
                self.refused(NoRunning, call, thing, 0, 1)
                self.refused(NoRunning, call, thing, None, None)

    def test_no_claimant_then_no_number(self):
        running = ([0], [1])
        for who in no_whole_between(0, 5):
            for number in (1, -1, None):
                self.refused(NoClaimant, count_at, running, who, number)
                self.refused(NoClaimant, turn_of, running, who, number)
        for who in range(6):
            for number in no_whole_between(0, MOST):
                self.refused(NoNumber, count_at, running, who, number)
            for number in no_whole_between(1, MOST):
                self.refused(NoNumber, turn_of, running, who, number)
        for number in no_whole_between(1, MOST):
            self.refused(NoNumber, choice_at, running, number)

    def test_edges_of_runnings_stand(self):
        for running in (([], [0]), ([], [5]), ([5], [0]), ([0] * 1000, [5] * 1000)):
            self.assertEqual(choice_at(running, MOST), running[1][0])
            self.assertEqual(count_at(running, 0, 0), 0)

    def test_what_is_made_good_is_taken(self):
        head, lap = [0, 6], []
        self.refused(NoRunning, choice_at, (head, lap), 3)
        lap.append(4)
        self.refused(NoRunning, choice_at, (head, lap), 3)
        head.pop()
        self.assertEqual(choice_at((head, lap), 3), 4)


class LeastForms(unittest.TestCase, Refusals):
    def test_plainly(self):
        self.assertEqual(least_of(([], [0, 1, 0, 1])), ([], [0, 1]))
        self.assertEqual(least_of(([], [0, 0, 0])), ([], [0]))
        self.assertEqual(least_of(([2, 1], [0, 1])), ([2], [1, 0]))
        self.assertEqual(least_of(([0, 1], [0, 1])), ([], [0, 1]))
        self.assertEqual(least_of(([1, 0, 1], [0, 1, 0, 1])), ([], [1, 0]))
        self.assertEqual(least_of(([0, 0, 0, 0], [0])), ([], [0]))
        self.assertEqual(least_of(([1, 0, 0, 0], [0, 0])), ([1], [0]))
        self.assertEqual(least_of(([0, 1, 2], [3, 4, 5])), ([0, 1, 2], [3, 4, 5]))
        self.assertEqual(least_of(([2, 2, 0, 1, 2], [0, 1, 2])), ([2], [2, 0, 1]))

    def test_it_tells_the_same_row_and_none_is_shorter(self):
        for running in samples(150):
            told = least_of(running)
            self.assertIs(type(told), tuple)
            self.assertEqual([type(one) for one in told], [list, list])
            head, lap = told
            far = 4 * (len(running[0]) + len(running[1]))
            row = long_row(running, far)
            self.assertEqual(long_row(told, far), row)
            self.assertEqual(least_of(told), told)
            # Each running that tells the row is read off it by two lengths.
            for turns in range(1, len(lap) + 1):
                for length in range(len(running[0]) + 1):
                    other = (row[:length], row[length:length + turns])
                    if long_row(other, far) == row:
                        self.assertGreaterEqual((turns, length), (len(lap), len(head)))

    def test_least_forms_are_equal_just_where_rows_are_one(self):
        chance = random.Random(510)
        alike = 0
        for number in range(400):
            one, other = random_running(chance, 2), random_running(chance, 2)
            if chance.random() < 0.5:
                head, lap = one
                turn = chance.randint(0, len(lap) - 1)
                other = (head + lap * chance.randint(0, 2) + lap[:turn], (lap[turn:] + lap[:turn]) * chance.randint(1, 3))
            far = 3 * sum(len(part) for running in (one, other) for part in running)
            same = long_row(one, far) == long_row(other, far)
            self.assertIs(least_of(one) == least_of(other), same)
            self.assertIs(first_apart(one, other) is None, same)
            alike += same
        self.assertGreater(alike, 100)
        self.assertLess(alike, 350)

    def test_no_running(self):
        for thing in wrong_runnings():
            self.refused(NoRunning, least_of, thing)

    def test_what_is_told_may_be_changed(self):
        running = ([0, 1], [2, 1])
        head, lap = least_of(running)
        head.append(5)
        lap.clear()
        self.assertEqual(running, ([0, 1], [2, 1]))
        self.assertEqual(least_of(running), ([0], [1, 2]))
        again = ([0], [1, 2])
        least_of(again)[0].clear()
        least_of(again)[1].clear()
        self.assertEqual(again, ([0], [1, 2]))


class Apart(unittest.TestCase, Refusals):
    def test_plainly(self):
        self.assertEqual(first_apart(([0, 1], [2]), ([0, 2], [2])), 2)
        self.assertEqual(first_apart(([], [0, 1]), ([], [0, 1, 0, 2])), 4)
        self.assertEqual(first_apart(([], [0, 1]), ([0], [1, 0])), None)
        self.assertEqual(first_apart(([], [0]), ([0] * 500, [1])), 501)
        self.assertEqual(first_apart(([0] * 499, [0, 1]), ([0] * 500, [0])), 501)
        self.assertEqual(first_apart(([], [0]), ([], [1])), 1)

    def test_behind_many_turns(self):
        # Laps of unlike lengths may be alike for nearly as many turns as both have together.
        self.assertEqual(first_apart(([], [0] * 40 + [1]), ([], [0] * 40 + [1] + [0] * 40)), 82)
        self.assertEqual(first_apart(([], [0, 1, 0, 0, 1]), ([], [0, 1, 0])), 7)
        self.assertEqual(first_apart(([], [0, 1, 0, 0, 1, 0, 1, 0]), ([], [0, 1, 0, 0, 1])), 12)
        self.assertEqual(first_apart(([], [0] * 99 + [1]), ([], [0] * 99 + [1] + [0] * 99 + [2])), 200)

    def test_turn_by_turn(self):
        chance = random.Random(511)
        places = set()
        for number in range(600):
            one, other = random_running(chance, 2), random_running(chance, 2)
            far = 3 * sum(len(part) for running in (one, other) for part in running)
            pairs = zip(long_row(one, far), long_row(other, far))
            apart = [turn for turn, (left, right) in enumerate(pairs, 1) if left != right]
            told = first_apart(one, other)
            self.assertEqual(told, apart[0] if apart else None, (one, other))
            self.assertEqual(first_apart(other, one), told)
            places.add(told)
        self.assertGreater(len(places), 6)

    def test_no_running(self):
        for thing in wrong_runnings():
            self.refused(NoRunning, first_apart, thing, ([], [0]))
            self.refused(NoRunning, first_apart, ([], [0]), thing)

    def test_nothing_handed_in_is_changed(self):
        one, other = ([0, 1], [2, 1]), ([0], [1, 2])
        kept = deepcopy((one, other))
        self.assertIs(first_apart(one, other), None)
        count_at(one, 1, 50)
        turn_of(one, 1, 50)
        self.assertEqual((one, other), kept)
