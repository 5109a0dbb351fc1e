"""Points 2, 3, 40 and 41: the keeper that steps by credits."""

import random
import unittest
from fractions import Fraction
from math import gcd

from dueturns.errors import NoPlan, NoStep
from dueturns.keeping import Credits
from tests.helper import Refusals, pair, wrong_weights


class Slow:
    """A keeper by its words, with Python's own fractions; each state is kept whole."""

    def __init__(self, weights):
        self.states = [(None, list(weights), [Fraction(0)] * len(weights), [])]

    def step(self):
        word, weights, credits, row = self.states[-1]
        grown = [one + Fraction(weight, sum(weights)) for one, weight in zip(credits, weights)]
        who = grown.index(max(grown))
        grown[who] -= 1
        self.states.append(("step", weights, grown, row + [who]))
        return who

    def change(self, weights):
        word, old, credits, row = self.states[-1]
        self.states.append(("change", list(weights), credits, row))

    def back(self):
        return self.states.pop()[0]


def random_weights(chance, many):
    """Weights, noughts and like ones among them."""
    weights = [chance.choice([0, 0, 1, 1, 2, 3, chance.randint(0, 1000)]) for who in range(many)]
    return weights if sum(weights) > 0 else [1] * many


class Deeds(unittest.TestCase, Refusals):
    def assert_like(self, keeper, slow):
        """A keeper tells what the slow one does."""
        word, weights, credits, row = slow.states[-1]
        self.assertEqual(keeper.weights(), weights)
        self.assertEqual(keeper.owing(), [pair(one) for one in credits])
        self.assertEqual(keeper.told(), row)

    def test_plainly(self):
        keeper = Credits([1, 2])
        self.assertEqual((keeper.owing(), keeper.weights(), keeper.told()), ([(0, 1), (0, 1)], [1, 2], []))
        self.assertEqual(keeper.step(), 1)
        self.assertEqual(keeper.owing(), [(1, 3), (-1, 3)])
        self.assertEqual(keeper.step(), 0)
        self.assertEqual(keeper.owing(), [(-1, 3), (1, 3)])
        self.assertIs(keeper.change([1, 0]), None)
        self.assertEqual(keeper.owing(), [(-1, 3), (1, 3)])
        self.assertEqual(keeper.step(), 0)
        self.assertEqual((keeper.owing(), keeper.weights(), keeper.told()), ([(-1, 3), (1, 3)], [1, 0], [1, 0, 0]))
        self.assertEqual([keeper.back() for deed in range(4)], ["step", "change", "step", "step"])
        self.assertEqual((keeper.owing(), keeper.weights(), keeper.told()), ([(0, 1), (0, 1)], [1, 2], []))

    def test_the_least_claimant_among_like_ones(self):
        for many in range(1, 7):
            keeper = Credits([5] * many)
            self.assertEqual([keeper.step() for turn in range(2 * many)], list(range(many)) * 2)
        keeper = Credits([0, 2, 2])
        self.assertEqual([keeper.step() for turn in range(4)], [1, 2, 1, 2])

    def test_a_weight_of_0(self):
        keeper = Credits([0, 0, 7])
        self.assertEqual([keeper.step() for turn in range(5)], [2] * 5)
        self.assertEqual(keeper.owing(), [(0, 1)] * 3)
        keeper = Credits([1, 1])
        keeper.step()
        keeper.change([1, 0])
        self.assertEqual([keeper.step() for turn in range(3)], [0, 0, 0])
        self.assertEqual(keeper.owing(), [(-1, 2), (1, 2)])

    def test_behind_each_deed(self):
        chance = random.Random(40)
        for many in (1, 2, 3, 4, 5, 6) * 4:
            weights = random_weights(chance, many)
            keeper, slow = Credits(weights), Slow(weights)
            self.assert_like(keeper, slow)
            for deed in range(60):
                word = chance.choice(["step"] * 4 + ["change", "back", "back"])
                if word == "step":
                    self.assertEqual(keeper.step(), slow.step())
                elif word == "change":
                    weights = random_weights(chance, many)
                    self.assertIs(keeper.change(weights), None)
                    slow.change(weights)
                elif len(slow.states) == 1:
                    self.refused(NoStep, keeper.back)
                else:
                    self.assertEqual(keeper.back(), slow.back())
                self.assert_like(keeper, slow)
            while len(slow.states) > 1:
                self.assertEqual(keeper.back(), slow.back())
                self.assert_like(keeper, slow)
            self.refused(NoStep, keeper.back)
            self.assert_like(keeper, slow)
            self.assertEqual(keeper.step(), slow.step())

    def test_no_step_that_could_be_taken_back(self):
        keeper = Credits([2, 1])
        self.refused(NoStep, keeper.back)
        keeper.change([2, 1])
        self.assertEqual(keeper.back(), "change")
        self.refused(NoStep, keeper.back)
        self.assertEqual(keeper.step(), 0)
        self.assertEqual(keeper.back(), "step")
        self.refused(NoStep, keeper.back)

    def test_no_weights(self):
        for thing in wrong_weights():
            self.refused_at(NoPlan, 0, Credits, thing)
        keeper, slow = Credits([3, 1]), Slow([3, 1])
        keeper.step()
        slow.step()
        for thing in wrong_weights() + [[1], [3, 1, 0], [0, 0, 1], [1] * 6]:
            self.refused_at(NoPlan, 0, keeper.change, thing)
            self.assert_like(keeper, slow)
        self.assertEqual(keeper.back(), "step")
        self.refused(NoStep, keeper.back)

    def test_edges_of_weights_stand(self):
        for weights in ([1], [1000], [0, 1], [1000] * 6, [0, 0, 0, 0, 0, 1]):
            self.assertEqual(Credits(weights).weights(), weights)
            keeper = Credits([1] * len(weights))
            keeper.change(weights)
            self.assertEqual(keeper.weights(), weights)

    def test_what_is_made_good_is_taken(self):
        keeper, weights = Credits([3, 1]), [1, 1001]
        self.refused_at(NoPlan, 0, keeper.change, weights)
        self.assertEqual(weights, [1, 1001])
        weights[1] = 1000
        keeper.change(weights)
        self.assertEqual(keeper.weights(), [1, 1000])

    def test_what_is_handed_in_and_told_may_be_changed(self):
        first, second = [1, 2, 3], [3, 2, 1]
        keeper, slow = Credits(first), Slow(first)
        first[0] = 100
        for turn in range(4):
            self.assertEqual(keeper.step(), slow.step())
        keeper.change(second)
        slow.change(second)
        second.clear()
        for told in (keeper.owing(), keeper.weights(), keeper.told()):
            told[0] = 77
            told.append(5)
        self.assert_like(keeper, slow)
        for turn in range(4):
            self.assertEqual(keeper.step(), slow.step())
            keeper.told().clear()
            keeper.owing().clear()
        while len(slow.states) > 1:
            self.assertEqual(keeper.back(), slow.back())
            keeper.weights().clear()
            self.assert_like(keeper, slow)

    def test_two_keepers_have_nothing_in_common(self):
        one, other = Credits([1, 2]), Credits([1, 2])
        one.step()
        one.change([5, 5])
        self.assertEqual((other.told(), other.weights(), other.owing()), ([], [1, 2], [(0, 1), (0, 1)]))


class HowFar(unittest.TestCase):
    def test_however_weights_change(self):
        chance = random.Random(41)
        for many in (1, 2, 3, 4, 5, 6) * 3:
            keeper = Credits(random_weights(chance, many))
            dues = [Fraction(0)] * many
            for turn in range(120):
                if chance.random() < 0.4:
                    keeper.change(random_weights(chance, many))
                weights = keeper.weights()
                dues = [due + Fraction(weight, sum(weights)) for due, weight in zip(dues, weights)]
                keeper.step()
                owing, row = [Fraction(*one) for one in keeper.owing()], keeper.told()
                self.assertEqual(owing, [due - row.count(who) for who, due in enumerate(dues)])
                self.assertEqual(sum(owing), 0)
                self.assertGreater(min(owing), -1)
                self.assertLess(max(owing), max(many - 1, 1))

    def test_weights_that_starve_one_another(self):
        # Weights that go over to those who are behind make the greatest credits.
        for many in range(2, 7):
            keeper = Credits([1] * many)
            for turn in range(60):
                owing = [Fraction(*one) for one in keeper.owing()]
                least = min(owing)
                keeper.change([0 if one == least and least < max(owing) else 1000 for one in owing])
                keeper.step()
                owing = [Fraction(*one) for one in keeper.owing()]
                self.assertEqual(sum(owing), 0)
                self.assertGreater(min(owing), -1)
                self.assertLess(max(owing), max(many - 1, 1))

    def test_weights_that_are_never_changed(self):
        chance = random.Random(410)
        told = [[6, 4, 2], [1], [1000], [500, 1000], [0, 7, 7], [2, 3, 5, 7], [0, 0, 0, 0, 4, 6]]
        told += [[by * chance.randint(0, 12) for who in range(many)] + [by] for many in range(6) for by in (1, 2, 9)]
        for weights in told:
            turns = sum(weights) // gcd(*weights)
            keeper = Credits(weights)
            row = [keeper.step() for turn in range(turns)]
            self.assertEqual(keeper.owing(), [(0, 1)] * len(weights))
            self.assertEqual([row.count(who) * gcd(*weights) for who in range(len(weights))], weights)
            self.assertEqual([keeper.step() for turn in range(turns)], row)
