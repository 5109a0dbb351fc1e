"""Points 2, 3 and 62: stands, and the rows that a book deals."""

import random
import unittest
from copy import deepcopy
from itertools import product

from dueturns.errors import NoBook, NoRow
from dueturns.runnings import least_of
from dueturns.stands import dealt, idle_rules, stand_of, stands_of
from tests.helper import (
    Refusals, around, choice_by, counting, long_row, pasts_to, random_books, reach_by, row_by, wrong_books, wrong_pasts,
)

YES, NO = ("and", ()), ("or", ())


def book_of(many, reach):
    """A book of so many claimants that looks back so many turns and chooses by no rule."""
    return (many, [(("and", (("went", 0, reach), NO)), 0)])


class Stands(unittest.TestCase, Refusals):
    def test_plainly(self):
        self.assertEqual(stands_of((1, [])), [()])
        self.assertEqual(stands_of((2, [])), [(), (0,), (1,)])
        self.assertEqual(stands_of((2, [(("went", 0, 2), 0)])), [(), (0,), (1,), (0, 0), (0, 1), (1, 0), (1, 1)])
        self.assertEqual(stand_of((2, []), [0, 1]), (1,))
        self.assertEqual(stand_of((4, []), [0, 1]), (0, 1))
        self.assertEqual(stand_of((1, []), [0, 0]), ())

    def test_each_number_of_claimants_and_each_reach(self):
        for many in range(1, 5):
            for reach in range(max(1, many - 1), 6):
                told = stands_of(book_of(many, reach))
                wanted = [past for turns in range(reach + 1) for past in product(range(many), repeat=turns)]
                self.assertEqual(told, wanted)
                self.assertIs(type(told), list)
                self.assertEqual({type(stand) for stand in told}, {tuple})
            # A short look back of a book of many claimants is no shorter reach.
            for reach in range(1, many):
                self.assertEqual(len(stands_of(book_of(many, reach))), len(pasts_to(many, many - 1)))
            self.assertEqual(len(stands_of((many, []))), len(pasts_to(many, many - 1)))

    def test_the_stand_of_each_past(self):
        chance = random.Random(62)
        for book in random_books(620, 60):
            many, reach = book[0], reach_by(book)
            told = stands_of(book)
            for turns in (0, 1, 2, 3, 4, 5, 6, 7, 50, 120):
                past = [chance.randrange(many) for turn in range(turns)]
                stand = stand_of(book, past)
                self.assertEqual(stand, tuple(past[max(0, turns - reach):]))
                self.assertIs(type(stand), tuple)
                self.assertIn(stand, told)

    def test_refused(self):
        for book, at in wrong_books():
            for call in (stands_of, idle_rules):
                self.refused_at(NoBook, at, call, book)
            for call in (stand_of, dealt):
                self.refused_at(NoBook, at, call, book, [])
                self.refused_at(NoBook, at, call, book, None)
        for many in range(1, 5):
            for past, at in wrong_pasts(many):
                for call in (stand_of, dealt):
                    self.refused_at(NoRow, at, call, (many, []), past)

    def test_what_is_told_may_be_changed(self):
        book = (2, [(("went", 0, 2), 1), (NO, 1)])
        kept = deepcopy(book)
        past = [0, 1]
        first = (stands_of(book), dealt(book, past), idle_rules(book))
        again = deepcopy(first)
        first[0].clear()
        first[1][0].append(1)
        first[1][1].append(1)
        first[2].append(0)
        self.assertEqual((stands_of(book), dealt(book, past), idle_rules(book)), again)
        self.assertEqual((book, past), (kept, [0, 1]))


class Dealt(unittest.TestCase):
    def test_plainly(self):
        self.assertEqual(dealt((1, []), []), ([], [0]))
        self.assertEqual(dealt((3, []), []), ([], [0, 1, 2]))
        self.assertEqual(dealt((3, []), [0]), ([], [1, 2, 0]))
        self.assertEqual(dealt((3, []), [2, 2, 2]), ([], [0, 1, 2]))
        self.assertEqual(dealt((2, [(YES, 1)]), [0]), ([], [1]))
        self.assertEqual(dealt((2, [(("went", 1, 1), 1)]), []), ([0], [1]))
        self.assertEqual(dealt((2, [(("went", 1, 1), 1)]), [1]), ([], [1]))
        # Twice 0, then once 1.
        self.assertEqual(dealt((2, [(("often", 0, 2, 2), 1), (YES, 0)]), []), ([], [0, 0, 1]))
        self.assertEqual(dealt((2, [(("often", 0, 2, 2), 1), (YES, 0)]), [0]), ([], [0, 1, 0]))

    def test_a_long_head(self):
        # Claimant 0 goes until it had five turns, then 1 for ever.
        book = (2, [(("or", (("often", 0, 5, 5), ("went", 1, 1))), 1), (YES, 0)])
        self.assertEqual(dealt(book, []), ([0] * 5, [1]))
        self.assertEqual(dealt(book, [0, 0]), ([0] * 3, [1]))
        self.assertEqual(dealt(book, [1]), ([], [1]))

    def test_a_long_lap(self):
        self.assertEqual(len(dealt(counting(3), [1])[1]), 7)
        self.assertEqual(len(dealt(counting(4), [1])[1]), 15)
        self.assertEqual(len(dealt(counting(5), [1])[1]), 31)
        self.assertEqual(len(dealt(around(4), [0] * 5)[1]), 20)
        self.assertEqual(dealt(counting(4), []), ([], [0]))

    def test_held_against_the_book_s_choices(self):
        chance = random.Random(621)
        heads, laps = set(), set()
        for book in random_books(622, 120):
            many = book[0]
            pasts = pasts_to(many, min(reach_by(book), 3))
            pasts = chance.sample(pasts, min(8, len(pasts)))
            pasts += [[chance.randrange(many) for turn in range(turns)] for turns in (5, 8, 120)]
            for past in pasts:
                told = dealt(book, past)
                self.assertIs(type(told), tuple)
                self.assertEqual([type(part) for part in told], [list, list])
                self.assertEqual(least_of(told), told)
                far = len(told[0]) + 2 * len(told[1]) + reach_by(book)
                self.assertEqual(long_row(told, far), row_by(book, past, far), (book, past))
                heads.add(len(told[0]))
                laps.add(len(told[1]))
        self.assertGreater(len(heads), 4)
        self.assertGreater(len(laps), 5)

    def test_all_pasts_of_one_stand_are_dealt_alike(self):
        for book in random_books(623, 15):
            many = book[0]
            for past in pasts_to(many, 3):
                reach = reach_by(book)
                if len(past) >= reach:
                    for longer in ([0] + past, [many - 1] * 7 + past):
                        self.assertEqual(dealt(book, longer), dealt(book, past))
                        self.assertEqual(stand_of(book, longer), stand_of(book, past))


class Idle(unittest.TestCase):
    def test_plainly(self):
        self.assertEqual(idle_rules((2, [])), [])
        self.assertEqual(idle_rules((2, [(NO, 0), (YES, 1), (("went", 0, 1), 0)])), [0, 2])
        self.assertEqual(idle_rules((2, [(("went", 0, 1), 1), (("and", (("went", 0, 1), ("went", 0, 2))), 0)])), [1])
        self.assertEqual(idle_rules((2, [(("went", 0, 5), 1), (("went", 0, 4), 0), (("often", 0, 5, 5), 0)])), [2])
        self.assertEqual(idle_rules((1, [(("went", 0, 1), 0), (("not", ("went", 0, 1)), 0), (YES, 0)])), [2])
        self.assertEqual(idle_rules((4, [(YES, 0)] * 8)), [1, 2, 3, 4, 5, 6, 7])
        # It is chosen by behind one past of all.
        self.assertEqual(idle_rules((2, [(("often", 1, 5, 5), 1)])), [])
        self.assertEqual(idle_rules((2, [(("or", (("went", 0, 1), ("went", 1, 1))), 1), (YES, 0)])), [])

    def test_held_against_all_pasts(self):
        lengths = set()
        for book in random_books(624, 150):
            used = {choice_by(book, past)[0] for past in pasts_to(book[0], reach_by(book))}
            told = idle_rules(book)
            self.assertEqual(told, [number for number in range(len(book[1])) if number not in used])
            lengths.add(len(told))
        self.assertTrue({0, 1, 2, 3} <= lengths)
