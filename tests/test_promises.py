"""Points 2, 3 and 63: promises."""

import random
import time
import unittest
from copy import deepcopy

from dueturns.errors import NoBook, NoRunning, NoSentence
from dueturns.promises import broken_by, broken_in
from tests.helper import (
    Refusals, anything, backs, choice_by, long_row, no_whole_between, pasts_to, random_books, random_running,
    random_sentence, reach_by, said, wrong_books, wrong_runnings, wrong_sentences,
)

YES, NO = ("and", ()), ("or", ())
SECONDS = 5


def random_promise(chance, many, most):
    """A promise that speaks of so many claimants and looks back at most so many turns."""
    some = sorted(chance.sample(range(many), chance.randint(1, many)))
    return (random_sentence(chance, many, most, 2), tuple(some))


def breaks(promise, past, who):
    """Whether a choice breaks a promise."""
    return said(promise[0], past) and who not in promise[1]


def wrong_promises():
    """Things that are no promise, of any kind."""
    told = anything() + [0, (YES,), (YES, (0,), (1,)), [YES, (0,)], ((0,), YES), YES, (YES, 0), (YES, "0")]
    told += [(thing, (0,)) for thing in wrong_sentences()]
    told += [(YES, thing) for thing in anything() if type(thing) is not tuple or len(thing) != 1]
    told += [(YES, some) for some in ((), [0], [0, 1], (1, 0), (0, 0), (0, 2, 1), (0, 1, 1), (5, 5), (0, 1, 2, 3, 4, 5, 5))]
    for thing in no_whole_between(0, 5):
        told += [(YES, (thing,)), (YES, (0, thing)), (YES, (thing, 5)), (YES, (0, thing, 5))]
    return told


class Runnings(unittest.TestCase):
    def test_in_the_head_in_the_lap_and_none(self):
        promise = (("went", 0, 1), (1, 2))
        self.assertEqual(broken_in(([0, 1, 0, 0], [1]), promise), 4)
        self.assertEqual(broken_in(([1, 0], [1, 2, 0, 3]), promise), 6)
        self.assertEqual(broken_in(([1, 0], [0, 1]), promise), 3)
        self.assertIs(broken_in(([0, 1, 0], [2, 0]), promise), None)

    def test_the_first_turn(self):
        for who in range(6):
            self.assertEqual(broken_in(([], [who]), (YES, (5,))), None if who == 5 else 1)
            self.assertEqual(broken_in(([who], [5]), (YES, (5,))), None if who == 5 else 1)
        self.assertIs(broken_in(([], [3]), (NO, (5,))), None)
        self.assertEqual(broken_in(([5], [3]), (("not", ("went", 0, 1)), (5,))), 2)
        # Nothing came before the first turn.
        for back in range(1, 6):
            self.assertIs(broken_in(([], [3]), (("not", ("often", 3, back, 1)), (3,))), None)
            self.assertEqual(broken_in(([], [3]), (("not", ("went", 3, back)), (0,))), 1)
            self.assertEqual(broken_in(([], [3]), (("went", 3, back), (0,))), back + 1)

    def test_over_the_end_of_a_lap(self):
        self.assertEqual(broken_in(([], [0, 1, 2]), (("went", 2, 1), (1,))), 4)
        self.assertEqual(broken_in(([], [0, 1, 2]), (("went", 2, 2), (0,))), 5)
        self.assertEqual(broken_in(([], [0, 1, 2]), (("went", 0, 4), (0,))), 5)
        self.assertEqual(broken_in(([5], [0, 1, 2]), (("went", 2, 5), (0, 2))), 9)
        self.assertEqual(broken_in(([], [0, 1, 2, 3]), (("went", 3, 5), (1,))), 9)
        self.assertEqual(broken_in(([], [0]), (("often", 0, 5, 5), (1,))), 6)
        self.assertEqual(broken_in(([1], [0]), (("often", 0, 5, 5), (1,))), 7)
        self.assertEqual(broken_in(([1, 1, 1], [0, 0]), (("often", 0, 5, 5), (1,))), 9)

    def test_just_at_the_last_turn_that_is_looked_at(self):
        found = set()
        for length in range(1, 8):
            lap = [1] * (length - 1) + [0]
            for head in ([], [2], [2, 3]):
                for back in range(1, 6):
                    # Broken where 0 was chosen so many turns ago: first behind the first lap.
                    told = broken_in((head, lap), (("went", 0, back), (5,)))
                    self.assertEqual(told, len(head) + length + back)
                    found.add(told)
        self.assertIn(14, found)

    def test_turn_by_turn(self):
        chance = random.Random(63)
        places = {"head": 0, "lap": 0, "behind": 0, None: 0}
        for number in range(6000):
            many = chance.choice([1, 2, 3, 6])
            running = random_running(chance, many)
            promise = random_promise(chance, 6, 5)
            head, lap = running
            row = long_row(running, len(head) + 3 * len(lap) + 12)
            turns = [turn for turn, who in enumerate(row, 1) if breaks(promise, row[:turn - 1], who)]
            told = broken_in(running, promise)
            self.assertEqual(told, turns[0] if turns else None, (running, promise))
            if told is None or told <= len(head):
                places[told and "head"] += 1
            else:
                places["lap" if told <= len(head) + len(lap) else "behind"] += 1
        self.assertGreater(min(places.values()), 40)

    def test_long_ones_in_a_short_time(self):
        running = ([turn % 5 for turn in range(20000)], [turn % 6 for turn in range(30000)])
        start = time.monotonic()
        self.assertEqual(broken_in(running, (("went", 5, 1), (1, 2, 3, 4, 5))), 20007)
        self.assertIs(broken_in(running, (("often", 5, 5, 2), (0,))), None)
        self.assertEqual(broken_in((running[0], running[1] + [5]), (("often", 5, 2, 2), (1,))), 50002)
        self.assertLess(time.monotonic() - start, SECONDS)


class Books(unittest.TestCase):
    def test_plainly(self):
        book = (3, [])
        self.assertEqual(broken_by(book, (YES, (1,))), [])
        self.assertEqual(broken_by(book, (("went", 0, 1), (2,))), [0])
        self.assertEqual(broken_by(book, (("went", 0, 1), (1,))), [1, 0])
        self.assertIs(broken_by(book, (("went", 0, 1), (1, 2))), None)
        self.assertEqual(broken_by(book, (("often", 1, 2, 1), (0,))), [0, 1])
        self.assertIs(broken_by(book, (NO, (5,))), None)
        told = broken_by(book, (("went", 0, 1), (2,)))
        self.assertIs(type(told), list)

    def test_further_back_than_the_book(self):
        book = (2, [])
        self.assertEqual(broken_by(book, (("went", 1, 5), (1,))), [1, 0, 0, 0, 1])
        self.assertEqual(broken_by(book, (("often", 1, 5, 5), (1,))), [1, 1, 1, 1, 1])
        self.assertEqual(broken_by(book, (("often", 0, 4, 4), (0,))), [0, 0, 0, 0])
        self.assertEqual(broken_by((1, []), (("went", 0, 5), (1,))), [0] * 5)
        self.assertIs(broken_by(book, (("often", 1, 5, 5), (0,))), None)
        # Behind a longer past the book still looks at its own reach alone.
        self.assertEqual(broken_by((3, []), (("and", (("went", 0, 1), ("went", 0, 2), ("went", 2, 3))), (2,))), [2, 0, 0])

    def test_claimants_that_the_book_lacks(self):
        book = (2, [])
        self.assertEqual(broken_by(book, (("not", ("went", 5, 1)), (5,))), [])
        self.assertIs(broken_by(book, (("went", 5, 1), (3,))), None)
        self.assertEqual(broken_by(book, (("more", 0, 4, 1), (4, 5))), [0])
        self.assertIs(broken_by(book, (("more", 4, 0, 5), (4, 5))), None)
        self.assertEqual(broken_by(book, (("more", 1, 4, 3), (1, 4, 5))), [1])

    def test_held_against_all_pasts(self):
        chance = random.Random(630)
        lengths = set()
        for book in random_books(631, 250):
            promise = random_promise(chance, chance.choice([book[0], 6]), chance.choice([1, 2, 3, 5]))
            reach = max([reach_by(book)] + backs(promise[0]))
            broken = [past for past in pasts_to(book[0], reach) if breaks(promise, past, choice_by(book, past)[1])]
            told = broken_by(book, promise)
            self.assertEqual(told, broken[0] if broken else None, (book, promise))
            lengths.add(None if told is None else len(told))
        self.assertTrue({None, 0, 1, 2, 3} <= lengths)

    def test_the_greatest_books_in_a_short_time(self):
        rule = (("and", (("or", (("more", 0, 1, 5), ("more", 1, 2, 5), ("often", 3, 5, 2), ("went", 3, 5))),) * 4), 1)
        start = time.monotonic()
        self.assertIs(broken_by((4, [rule] * 8), (YES, (0, 1, 2, 3))), None)
        self.assertLess(time.monotonic() - start, SECONDS)


class Refused(unittest.TestCase, Refusals):
    def test_no_running_or_no_book_ahead_of_no_sentence(self):
        for running in wrong_runnings():
            self.refused(NoRunning, broken_in, running, (YES, (0,)))
            self.refused(NoRunning, broken_in, running, None)
        for book, at in wrong_books():
            self.refused_at(NoBook, at, broken_by, book, (YES, (0,)))
            self.refused_at(NoBook, at, broken_by, book, None)

    def test_no_promise(self):
        for thing in wrong_promises():
            self.refused(NoSentence, broken_in, ([], [0]), thing)
            self.refused(NoSentence, broken_by, (2, []), thing)

    def test_edges_of_promises_stand(self):
        for some in ((0,), (5,), (0, 5), (0, 1, 2, 3, 4, 5)):
            self.assertIs(broken_in(([], [some[0]]), (YES, some)), None)
            self.assertEqual(broken_by((1, []), (YES, some)), None if some[0] == 0 else [])

    def test_nothing_handed_in_is_changed_and_what_is_told_may_be(self):
        running, book, promise = ([0], [1, 0, 0]), (2, [(("went", 0, 1), 0)]), (("went", 0, 1), (1,))
        kept = deepcopy((running, book, promise))
        self.assertEqual(broken_in(running, promise), 4)
        broken_by(book, promise).clear()
        self.assertEqual(broken_by(book, promise), [0])
        self.assertEqual((running, book, promise), kept)
