"""Points 2, 3 and 73: books that choose alike, and those that part."""

import random
import time
import unittest
from copy import deepcopy

from dueturns.alikes import parts_at, rows_part_at
from dueturns.errors import NoBook, NoRow
from tests.helper import (
    Refusals, around, choice_by, counting, pasts_to, random_book, random_books, reach_by, row_by, wrong_books, wrong_pasts,
)

YES, NO = ("and", ()), ("or", ())
SECONDS = 5


def pairs(seed, number):
    """Pairs of books of equally many claimants: some alike, some that part late, some by chance."""
    chance = random.Random(seed)
    told = []
    for one in random_books(seed, number):
        many, rules = one
        other = random_book(chance, 3)
        while other[0] != many:
            other = random_book(chance, 3)
        late = (("often", many - 1, 4, 4), 0)
        told += [(one, other), (one, (many, rules[:7] + [(NO, 0)])), (one, (many, [late] + rules[:7])), (one, (many, rules[::-1]))]
    return told


class Parting(unittest.TestCase, Refusals):
    def test_plainly(self):
        self.assertIs(parts_at((3, []), (3, [])), None)
        self.assertEqual(parts_at((3, []), (3, [(YES, 1)])), [])
        self.assertEqual(parts_at((2, []), (2, [(("went", 1, 1), 1)])), [1])
        self.assertEqual(parts_at((2, []), (2, [(("went", 0, 2), 1)])), [0, 1])
        self.assertIs(parts_at((2, []), (2, [(("went", 0, 1), 1), (("went", 1, 1), 0)])), None)
        self.assertIs(parts_at((1, []), (1, [(("often", 0, 5, 5), 0)])), None)
        self.assertIs(parts_at((2, [(NO, 1)] * 8), (2, [])), None)

    def test_a_reach_may_part_books_by_itself(self):
        # Where no rule holds the longer look back tells claimants apart that the shorter one does not.
        longer = (3, [(("and", (("went", 0, 3), NO)), 0)])
        self.assertEqual(parts_at((3, []), longer), [0, 1, 1])
        self.assertEqual(parts_at(longer, (3, [])), [0, 1, 1])
        self.assertEqual(parts_at((3, []), (3, [(("and", (("went", 0, 5), NO)), 0)])), [0, 1, 1])
        self.assertEqual(rows_part_at((3, []), longer, [0, 1, 1]), 1)

    def test_at_the_greatest_reach(self):
        for many in range(2, 5):
            for who in range(many):
                book = (many, [(("often", who, 5, 5), who)])
                other = (many, [(("and", (("often", who, 5, 5), YES)), (who + 1) % many)])
                self.assertEqual(parts_at(book, other), [who] * 5)
                self.assertEqual(rows_part_at(book, other, [who] * 5), 1)
                self.assertIs(rows_part_at(book, other, []), None)

    def test_held_against_all_pasts(self):
        lengths = set()
        for one, other in pairs(730, 60):
            reach = max(reach_by(one), reach_by(other))
            apart = None
            for past in pasts_to(one[0], reach):
                if choice_by(one, past)[1] != choice_by(other, past)[1]:
                    apart = past
                    break
            told = parts_at(one, other)
            self.assertEqual(told, apart, (one, other))
            self.assertIn(type(told), (list, type(None)))
            self.assertEqual(parts_at(other, one), told)
            lengths.add(None if told is None else len(told))
        self.assertTrue({None, 0, 1, 2, 3, 4} <= lengths, lengths)

    def test_rows_held_against_steps(self):
        chance = random.Random(731)
        turns = set()
        for one, other in pairs(732, 40):
            for length in (0, 1, 2, 3, 5, 7, 120):
                past = [chance.randrange(one[0]) for turn in range(length)]
                told = rows_part_at(one, other, past)
                self.assertEqual(rows_part_at(other, one, past), told)
                far = 40 if told is None else told
                rows = list(zip(row_by(one, past, far), row_by(other, past, far)))
                apart = [turn for turn, (left, right) in enumerate(rows, 1) if left != right]
                self.assertEqual(told, apart[0] if apart else None)
                turns.add(told)
        self.assertTrue({None, 1, 2, 3, 4} <= turns, turns)

    def test_rows_that_part_late(self):
        for past in ([1], [0, 1], [1, 1, 0, 1]):
            book = counting(5)
            other = (2, [(("often", 1, 5, 5), 1)] + book[1])
            row = row_by(book, past, 70)
            turn = next(turn for turn in range(5, 70) if row[turn - 5:turn] == [1] * 5) + 1
            self.assertEqual(rows_part_at(book, other, past), turn)
        self.assertIs(rows_part_at(counting(5), (2, [(YES, 0)]), []), None)
        self.assertEqual(parts_at(counting(5), (2, [(YES, 0)])), [1, 0, 0])

    def test_long_laps(self):
        self.assertIs(rows_part_at(around(4), (4, around(4)[1] + [(NO, 0)]), [0] * 5), None)
        self.assertEqual(rows_part_at(counting(4), counting(5), [1]), 4)

    def test_the_greatest_books_in_a_short_time(self):
        rule = (("and", (("or", (("more", 0, 1, 5), ("more", 1, 2, 5), ("often", 3, 5, 2), ("went", 3, 5))),) * 4), 1)
        start = time.monotonic()
        self.assertIs(parts_at((4, [rule] * 8), (4, [rule] * 7)), None)
        self.assertIs(rows_part_at((4, [rule] * 8), (4, [rule] * 7), []), None)
        self.assertLess(time.monotonic() - start, SECONDS)


class Refused(unittest.TestCase, Refusals):
    def test_no_book_each(self):
        for book, at in wrong_books():
            for other in ((3, []), (2, []), None):
                self.refused_at(NoBook, at, parts_at, book, other)
                self.refused_at(NoBook, at, rows_part_at, book, other, [])
            self.refused_at(NoBook, at, rows_part_at, book, (3, []), None)
            self.refused_at(NoBook, at, parts_at, (3, []), book)
            self.refused_at(NoBook, at, rows_part_at, (3, []), book, [])
            self.refused_at(NoBook, at, rows_part_at, (3, []), book, None)

    def test_the_first_one_is_told(self):
        one, other = (2, [(YES, 0), (YES, 2)]), (2, [(YES, 3)])
        self.refused_at(NoBook, 1, parts_at, one, other)
        self.refused_at(NoBook, 0, parts_at, other, one)

    def test_books_of_unlike_many(self):
        for one in range(1, 5):
            for other in range(1, 5):
                if one != other:
                    self.refused_at(NoBook, -1, parts_at, (one, []), (other, []))
                    self.refused_at(NoBook, -1, rows_part_at, (one, []), (other, []), [])
                    self.refused_at(NoBook, -1, rows_part_at, (one, []), (other, []), None)
                    self.refused_at(NoBook, 0, parts_at, (one, []), (other, [(YES, 4)]))

    def test_no_row(self):
        for many in range(1, 5):
            for past, at in wrong_pasts(many):
                self.refused_at(NoRow, at, rows_part_at, (many, []), (many, []), past)

    def test_nothing_handed_in_is_changed_and_what_is_told_may_be(self):
        one, other, past = (2, []), (2, [(("went", 1, 1), 1)]), [0]
        kept = deepcopy((one, other, past))
        parts_at(one, other).append(5)
        self.assertEqual(parts_at(one, other), [1])
        self.assertEqual(rows_part_at(one, other, past), 2)
        self.assertEqual((one, other, past), kept)
