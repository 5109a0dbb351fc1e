"""Point 10: fractions."""

import random
import unittest
from fractions import Fraction
from math import ceil, floor, gcd

from dueturns.errors import NoFraction
from dueturns.fractions import ceiling_of, floor_of, less, made, minus, over, plus, times
from tests.helper import Refusals, pair

SIXTY = 10 ** 60 - 1


def samples():
    chance = random.Random(10)
    told = [(0, 1), (1, 1), (-1, 1), (1, 2), (-1, 2), (7, 3), (-7, 3), (5, 1), (-5, 1), (299, 300)]
    told += [(SIXTY, 1), (-SIXTY, 1), (1, SIXTY), (-1, SIXTY), (SIXTY, SIXTY - 1), (1 - SIXTY, SIXTY)]
    for figures in (1, 2, 5, 20, 60):
        for time in range(4):
            top = chance.randint(-10 ** figures + 1, 10 ** figures - 1)
            told.append(pair(Fraction(top, chance.randint(1, 10 ** figures - 1))))
    return told


class Fractions(unittest.TestCase, Refusals):
    def assert_form(self, one):
        self.assertIs(type(one), tuple)
        self.assertEqual([type(part) for part in one], [int, int])
        self.assertGreaterEqual(one[1], 1)
        self.assertEqual(gcd(one[0], one[1]), 1)

    def test_made_of_small_tops_and_bottoms(self):
        for top in range(-12, 13):
            for bottom in list(range(-12, 0)) + list(range(1, 13)):
                self.assert_form(made(top, bottom))
                self.assertEqual(made(top, bottom), pair(Fraction(top, bottom)))

    def test_made_plainly(self):
        self.assertEqual(made(6, 4), (3, 2))
        self.assertEqual(made(6, -4), (-3, 2))
        self.assertEqual(made(-6, 4), (-3, 2))
        self.assertEqual(made(-6, -4), (3, 2))
        self.assertEqual(made(8, 4), (2, 1))

    def test_nought_has_one_form(self):
        for bottom in (1, 2, 17, SIXTY, -1, -2, -SIXTY):
            self.assertEqual(made(0, bottom), (0, 1))
        self.assertEqual(plus((1, 3), (-1, 3)), (0, 1))
        self.assertEqual(minus((1, 3), (1, 3)), (0, 1))
        self.assertEqual(times((0, 1), (5, 7)), (0, 1))
        self.assertEqual(over((0, 1), (-5, 7)), (0, 1))

    def test_made_of_sixty_figures(self):
        chance = random.Random(60)
        for time in range(100):
            by = chance.randint(1, 10 ** 30)
            top, bottom = (by * chance.randint(-10 ** 30, 10 ** 30) for half in "ab")
            if bottom != 0:
                self.assert_form(made(top, bottom))
                self.assertEqual(made(top, bottom), pair(Fraction(top, bottom)))
        self.assertEqual(made(SIXTY, SIXTY), (1, 1))
        self.assertEqual(made(SIXTY, -SIXTY), (-1, 1))
        self.assertEqual(made(-SIXTY, 9), (-SIXTY // 9, 1))
        self.assertEqual(made(3, SIXTY), (1, SIXTY // 3))

    def test_four_ways_of_reckoning(self):
        for one in samples():
            for other in samples():
                a, b = Fraction(*one), Fraction(*other)
                self.assertEqual(plus(one, other), pair(a + b))
                self.assertEqual(minus(one, other), pair(a - b))
                self.assertEqual(times(one, other), pair(a * b))
                if b != 0:
                    self.assertEqual(over(one, other), pair(a / b))
                    self.assert_form(over(one, other))

    def test_less(self):
        for one in samples():
            for other in samples():
                self.assertIs(less(one, other), Fraction(*one) < Fraction(*other))
        self.assertIs(less((1, 2), (1, 2)), False)
        self.assertIs(less((-1, 2), (-1, 3)), True)

    def test_floors_and_ceilings(self):
        for one in samples():
            self.assertEqual(floor_of(one), floor(Fraction(*one)))
            self.assertEqual(ceiling_of(one), ceil(Fraction(*one)))
        self.assertEqual([floor_of((top, 2)) for top in (-3, -1, 1, 3)], [-2, -1, 0, 1])
        self.assertEqual([ceiling_of((top, 2)) for top in (-3, -1, 1, 3)], [-1, 0, 1, 2])
        for whole in (-SIXTY, -2, -1, 0, 1, 2, SIXTY):
            self.assertEqual((floor_of((whole, 1)), ceiling_of((whole, 1))), (whole, whole))

    def test_the_bottom_0_is_refused(self):
        for top in (-SIXTY, -1, 0, 1, SIXTY):
            self.refused(NoFraction, made, top, 0)
        self.assertEqual(made(0, 1), (0, 1))

    def test_division_by_nought_is_refused(self):
        for one in samples():
            self.refused(NoFraction, over, one, (0, 1))

    def test_answers_are_alike(self):
        first = [made(6, -4), plus((1, 2), (1, 3)), floor_of((-1, 2))]
        times((5, 7), (7, 5))
        self.refused(NoFraction, made, 1, 0)
        self.assertEqual([made(6, -4), plus((1, 2), (1, 3)), floor_of((-1, 2))], first)
