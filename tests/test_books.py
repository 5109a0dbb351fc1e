"""Points 2, 3 and 61: books."""

import random
import unittest
from copy import deepcopy

from dueturns.books import chosen, rule_by
from dueturns.errors import NoBook, NoRow
from tests.helper import Refusals, choice_by, pasts_to, random_books, reach_by, wrong_books, wrong_pasts

YES, NO = ("and", ()), ("or", ())


class Choices(unittest.TestCase):
    def test_the_first_rule_that_holds(self):
        book = (3, [(("went", 0, 1), 2), (("often", 0, 2, 1), 1), (("went", 0, 2), 0), (YES, 1)])
        for past, number, who in (([], 3, 1), ([0], 0, 2), ([0, 1], 1, 1), ([0, 0], 0, 2), ([0, 1, 1], 3, 1)):
            self.assertEqual((rule_by(book, past), chosen(book, past)), (number, who), past)
        many, rules = book
        self.assertEqual(rule_by((many, rules[1:]), [0, 1]), 0)
        self.assertEqual(rule_by((many, rules[2:]), [0, 1]), 0)
        self.assertEqual(chosen((many, rules[2:]), [0, 1]), 0)

    def test_eight_rules(self):
        for place in range(8):
            book = (4, [(NO, 0)] * place + [(YES, 3)] + [(YES, 1)] * (7 - place))
            self.assertEqual((rule_by(book, [2]), chosen(book, [2])), (place, 3))
        self.assertEqual((rule_by((4, [(NO, 3)] * 8), [2]), chosen((4, [(NO, 3)] * 8), [2])), (None, 0))

    def test_where_no_rule_holds(self):
        book = (4, [])
        for past, who in (([], 0), ([0], 1), ([1], 0), ([0, 1], 2), ([1, 0, 2], 3), ([2, 1, 3], 0), ([0, 3, 3], 1)):
            self.assertIs(rule_by(book, past), None)
            self.assertEqual(chosen(book, past), who, past)
        # The reach is three turns, so what came ahead of them is not looked at.
        self.assertEqual(chosen(book, [0, 3, 1, 2, 3]), 0)
        self.assertEqual(chosen(book, [2, 1, 0, 3, 3, 3]), 0)
        self.assertEqual(chosen(book, [3, 0, 1, 2, 1, 0]), 3)

    def test_a_longer_reach(self):
        book = (3, [(("and", (("went", 2, 5), NO)), 0)])
        self.assertEqual(chosen(book, [1, 2, 0, 2, 2]), 1)
        self.assertEqual(chosen(book, [0, 1, 2, 0, 2, 2]), 1)
        self.assertEqual(chosen(book, [1, 2, 0, 2, 2, 2]), 1)
        self.assertEqual(chosen(book, [2, 0, 2, 1, 2]), 0)
        self.assertEqual(chosen(book, [0, 2, 2, 2, 2, 1]), 0)
        self.assertEqual(chosen(book, [0, 2, 1, 1, 1]), 0)
        self.assertEqual(chosen((3, []), [0, 2, 1, 1, 1]), 0)
        self.assertEqual(chosen((3, []), [1, 0, 0, 2, 2]), 0)
        self.assertEqual(chosen(book, [1, 0, 0, 2, 2]), 1)

    def test_one_claimant(self):
        for book in ((1, []), (1, [(YES, 0)]), (1, [(("often", 0, 5, 5), 0)])):
            for turns in (0, 1, 5, 120):
                self.assertEqual(chosen(book, [0] * turns), 0)
        self.assertIs(rule_by((1, [(("often", 0, 5, 5), 0)]), [0] * 4), None)
        self.assertEqual(rule_by((1, [(("often", 0, 5, 5), 0)]), [0] * 5), 0)

    def test_held_against_the_words(self):
        chance = random.Random(61)
        used = set()
        for book in random_books(610, 150):
            many = book[0]
            pasts = pasts_to(many, min(5, reach_by(book) + 1))
            pasts = chance.sample(pasts, min(200, len(pasts)))
            pasts += [[chance.randrange(many) for turn in range(turns)] for turns in (6, 7, 20, 119, 120)]
            for past in pasts:
                number, who = choice_by(book, past)
                self.assertEqual((rule_by(book, past), chosen(book, past)), (number, who), (book, past))
                used.add(number)
        self.assertTrue({None, 0, 1, 2, 3} <= used)


class Refused(unittest.TestCase, Refusals):
    def test_no_book_ahead_of_no_row(self):
        for book, at in wrong_books():
            for call in (chosen, rule_by):
                self.refused_at(NoBook, at, call, book, [])
                self.refused_at(NoBook, at, call, book, None)

    def test_no_row(self):
        for many in range(1, 5):
            for past, at in wrong_pasts(many):
                for call in (chosen, rule_by):
                    self.refused_at(NoRow, at, call, (many, []), past)
            self.assertIn(chosen((many, []), [many - 1] * 120), range(many))

    def test_claimants_that_the_book_lacks(self):
        for many in range(1, 5):
            last = many - 1
            for who in range(many, 6):
                for rule in ((("went", who, 1), 0), (YES, who), (("not", ("often", who, 1, 1)), 0)):
                    self.refused_at(NoBook, 1, chosen, (many, [(YES, last), rule]), [])
                if last != who:
                    for both in ((last, who), (who, last)):
                        self.refused_at(NoBook, 0, chosen, (many, [(("or", (("more", *both, 2),)), 0)]), [])
            self.assertEqual(chosen((many, [(("went", last, 1), last)]), [last]), last)

    def test_what_is_made_good_is_taken(self):
        rules = [(YES, 1), (("went", 2, 1), 0)]
        self.refused_at(NoBook, 1, chosen, (2, rules), [])
        rules.pop()
        past = [2]
        self.refused_at(NoRow, 0, chosen, (2, rules), past)
        past[0] = 1
        self.assertEqual(chosen((2, rules), past), 1)

    def test_nothing_handed_in_is_changed(self):
        for book in random_books(611, 20):
            past = [0, book[0] - 1]
            kept = deepcopy((book, past))
            self.assertEqual(chosen(book, past), chosen(book, past))
            rule_by(book, past)
            self.assertEqual((book, past), kept)
