"""Points 2, 3, 70, 71 and 72: waits, papers on them, and laps."""

import random
import time
import unittest
from copy import deepcopy

from dueturns.errors import NoBook, NoClaimant, NoRow
from dueturns.stands import stands_of
from dueturns.waits import laps_of, wait_behind, waits_hold, waits_of
from tests.helper import (
    Refusals, Sulky, anything, around, choice_table, counting, no_whole_between, pasts_to, random_books, reach_by,
    stand_by, steps_off, wrong_books, wrong_pasts,
)

YES, NO = ("and", ()), ("or", ())
SECONDS = 5
# Behind claimant 1 it stays with 1; else 0, 2 and 0 again take turns.
STUCK = (3, [(("went", 1, 1), 1), (("went", 2, 1), 0), (("went", 0, 1), 2)])


def books():
    """Books of all sizes; few of them have many stands."""
    small = [book for book in random_books(70, 90) if book[0] ** reach_by(book) <= 300]
    large = [book for book in random_books(71, 60) if book[0] ** reach_by(book) > 300]
    return small + large[:2] + [(many, []) for many in range(1, 5)] + [STUCK, counting(3), counting(5), around(2)]


def walked(book, table, past):
    """The choices behind a past until a stand comes again, and how many of them came ahead of its first time."""
    stand, seen, row = stand_by(book, past), [], []
    while stand not in seen:
        seen.append(stand)
        row += steps_off(book, table, stand, 1)[0]
        stand = steps_off(book, table, stand, 1)[1]
    return row, seen.index(stand)


def slow_wait(book, table, who, past):
    """A wait, turn by turn."""
    row, ahead = walked(book, table, past)
    return row.index(who) + 1 if who in row else None


def slow_lap(book, table, past):
    """The lap of the row dealt behind a past, turned so that it is least."""
    row, ahead = walked(book, table, past)
    lap = row[ahead:]
    return min(lap[turns:] + lap[:turns] for turns in range(len(lap)))


class Waits(unittest.TestCase, Refusals):
    def test_plainly(self):
        self.assertEqual(waits_of((1, []), 0), [((), 1)])
        self.assertEqual(waits_of((2, []), 0), [((), 1), ((0,), 2), ((1,), 1)])
        self.assertEqual(waits_of((2, []), 1), [((), 2), ((0,), 1), ((1,), 2)])
        self.assertEqual(waits_of((2, [(YES, 1)]), 0), [((), None), ((0,), None), ((1,), None)])
        self.assertEqual(waits_of((2, [(("went", 1, 1), 1)]), 0), [((), 1), ((0,), None), ((1,), None)])
        self.assertEqual([wait_behind(STUCK, who, []) for who in range(3)], [1, None, 2])
        self.assertEqual([wait_behind(STUCK, who, [0, 1]) for who in range(3)], [None, 1, None])
        self.assertEqual(wait_behind((4, []), 3, []), 4)
        self.assertEqual(wait_behind(counting(5), 1, [1, 0, 0, 0, 0]), 1)

    def test_held_against_the_rows(self):
        found = set()
        for book in books():
            table = choice_table(book)
            for who in range(book[0]):
                told = waits_of(book, who)
                self.assertIs(type(told), list)
                self.assertEqual([stand for stand, wait in told], stands_of(book))
                self.assertEqual(told, [(stand, slow_wait(book, table, who, list(stand))) for stand in table])
                found |= {wait for stand, wait in told}
        self.assertTrue({None, 1, 2, 3, 4, 5, 6, 7} <= found)

    def test_behind_a_past(self):
        chance = random.Random(700)
        for book in books():
            table = choice_table(book)
            for who in range(book[0]):
                waits = dict(waits_of(book, who))
                for turns in (0, 1, 2, 4, 6, 120):
                    past = [chance.randrange(book[0]) for turn in range(turns)]
                    told = wait_behind(book, who, past)
                    self.assertEqual(told, waits[stand_by(book, past)])
                    self.assertEqual(told, slow_wait(book, table, who, past))

    def test_refused(self):
        for book, at in wrong_books():
            self.refused_at(NoBook, at, waits_of, book, 0)
            self.refused_at(NoBook, at, waits_of, book, None)
            self.refused_at(NoBook, at, wait_behind, book, 0, [])
            self.refused_at(NoBook, at, wait_behind, book, None, None)
            self.refused_at(NoBook, at, waits_hold, book, None, [])
            self.refused_at(NoBook, at, laps_of, book)
        for many in range(1, 5):
            for who in no_whole_between(0, many - 1):
                self.refused(NoClaimant, waits_of, (many, []), who)
                self.refused(NoClaimant, wait_behind, (many, []), who, [])
                self.refused(NoClaimant, wait_behind, (many, []), who, None)
                self.refused(NoClaimant, waits_hold, (many, []), who, [])
            for past, at in wrong_pasts(many):
                self.refused_at(NoRow, at, wait_behind, (many, []), many - 1, past)

    def test_what_is_told_may_be_changed(self):
        book, past = (2, [(("went", 1, 1), 1)]), [0]
        kept = deepcopy((book, past))
        waits_of(book, 0).clear()
        laps_of(book)[0].append(0)
        laps_of(book).clear()
        self.assertEqual(waits_of(book, 0), [((), 1), ((0,), None), ((1,), None)])
        self.assertEqual(laps_of(book), [[1]])
        self.assertEqual(wait_behind(book, 1, past), 1)
        self.assertEqual((book, past), kept)

    def test_the_greatest_books_in_a_short_time(self):
        rule = (("and", (("or", (("more", 0, 1, 5), ("more", 1, 2, 5), ("often", 3, 5, 2), ("went", 3, 5))),) * 4), 1)
        book = (4, [rule] * 8)
        start = time.monotonic()
        self.assertIs(waits_hold(book, 2, waits_of(book, 2)), True)
        laps_of(book)
        wait_behind(book, 3, [])
        self.assertLess(time.monotonic() - start, SECONDS)


class Papers(unittest.TestCase):
    def wrong(self, book, who, told, changes):
        """A paper is not right with these lines in the place of its own."""
        other = list(told)
        for place, line in changes.items():
            other[place] = line
        self.assertIs(waits_hold(book, who, other), False, (book, who, changes))

    def test_the_told_list_and_one_with_grown_numbers(self):
        for book in books():
            for who in range(book[0]):
                told = waits_of(book, who)
                kept = list(told)
                self.assertIs(waits_hold(book, who, told), True)
                for more in (1, 7, 10 ** 70):
                    grown = [(stand, wait and wait + more) for stand, wait in told]
                    self.assertIs(waits_hold(book, who, grown), True)
                    self.assertIs(waits_hold(book, who, [(stand, wait and wait * (more + 1)) for stand, wait in told]), True)
                self.assertEqual(told, kept)

    def test_each_condition_broken_alone(self):
        chance = random.Random(710)
        broken = {"small": 0, "none": 0, "number": 0}
        for book in books():
            table = choice_table(book)
            for who in range(book[0]):
                told = waits_of(book, who)
                for place in chance.sample(range(len(told)), min(4, len(told))):
                    stand, wait = told[place]
                    if wait is None:
                        # The stand behind has None, too.
                        for number in (1, 2, 10 ** 6):
                            self.wrong(book, who, told, {place: (stand, number)})
                        broken["number"] += 1
                        continue
                    self.wrong(book, who, told, {place: (stand, None)})
                    broken["none"] += 1
                    if wait > 1:
                        for number in range(1, wait):
                            self.wrong(book, who, told, {place: (stand, number)})
                        broken["small"] += 1
                    for number in (0, -1, -wait, True, str(wait), float(wait), [wait], (wait,), b"1"):
                        self.wrong(book, who, told, {place: (stand, number)})
        self.assertGreater(min(broken.values()), 50)

    def test_a_number_may_be_greater_where_those_ahead_are_greater_still(self):
        book = (3, [])
        table = choice_table(book)
        told = waits_of(book, 0)
        results = set()
        for place, (stand, wait) in enumerate(told):
            grown = told[:place] + [(stand, wait + 1)] + told[place + 1:]
            ahead = [one for one, number in told if number == wait + 1 and steps_off(book, table, one, 1)[1] == stand]
            self.assertIs(waits_hold(book, 0, grown), not ahead, stand)
            results.add(not ahead)
        self.assertEqual(results, {True, False})

    def test_none_where_it_is_chosen(self):
        book = (2, [(YES, 0)])
        self.assertEqual(waits_of(book, 0), [((), 1), ((0,), 1), ((1,), 1)])
        self.assertIs(waits_hold(book, 0, [((), None), ((0,), None), ((1,), None)]), False)
        self.assertIs(waits_hold(book, 1, [((), None), ((0,), None), ((1,), None)]), True)
        self.assertIs(waits_hold(book, 0, [((), None), ((0,), 1), ((1,), 1)]), False)

    def test_none_where_the_stand_behind_has_a_number(self):
        book = (3, [])
        for place, (stand, wait) in enumerate(waits_of(book, 2)):
            self.wrong(book, 2, waits_of(book, 2), {place: (stand, None)})

    def test_numbers_round_a_lap_without_the_claimant(self):
        book = (3, [(("went", 0, 1), 1), (YES, 0)])
        self.assertEqual([wait for stand, wait in waits_of(book, 2)], [None] * 13)
        for numbers in ([1] * 13, list(range(1, 14)), list(range(13, 0, -1)), [5] + [None] * 12, [None] * 12 + [5]):
            lines = list(zip(stands_of(book), numbers))
            self.assertIs(waits_hold(book, 2, lines), False)
        alone = (2, [(YES, 1)])
        for numbers in ((1, 1, 1), (2, 1, 1), (3, 2, 1), (None, None, 1), (1, None, None)):
            self.assertIs(waits_hold(alone, 0, list(zip(stands_of(alone), numbers))), False)

    def test_stands_that_are_not_told_so(self):
        for book in ((2, []), (3, []), STUCK, counting(3)):
            told = waits_of(book, 0)
            for place, (stand, wait) in enumerate(told):
                self.assertIs(waits_hold(book, 0, told[:place] + told[place + 1:]), False)
                self.assertIs(waits_hold(book, 0, told[:place] + [told[place]] + told[place:]), False)
                for thing in (None, list(stand), "", stand + (0,), stand[1:] if stand else 0, (stand,)):
                    self.wrong(book, 0, told, {place: (thing, wait)})
                for line in (None, stand, [stand, wait], (stand,), (stand, wait, wait), (wait, stand), wait, Sulky()):
                    self.wrong(book, 0, told, {place: line})
                if place > 0:
                    self.wrong(book, 0, told, {place: told[place - 1], place - 1: told[place]})
                    self.wrong(book, 0, told, {place: told[place - 1]})
                for at, one in enumerate(stand):
                    for thing in (bool(one) if one < 2 else 2.0, float(one), str(one), None, Sulky(), 4, -1):
                        self.wrong(book, 0, told, {place: (stand[:at] + (thing,) + stand[at + 1:], wait)})

    def test_of_anything(self):
        for book in ((1, []), (2, []), STUCK):
            told = waits_of(book, 0)
            for thing in anything() + [0, tuple(told), dict(told), iter(told), [told], {0: told}, told + told, [None] * 3]:
                self.assertIs(waits_hold(book, 0, thing), False)
            for thing in [one for one in anything() if type(one) is not tuple or len(one) < 2]:
                for place, (stand, wait) in enumerate(told):
                    if type(thing) is not tuple or thing not in ((), (1,)):
                        self.wrong(book, 0, told, {place: (thing, wait)})
                    if thing is not None or wait is not None:
                        self.wrong(book, 0, told, {place: (stand, thing)})
                    self.wrong(book, 0, told, {place: thing})

    def test_all_short_lists(self):
        # Held against the words, for all lists of small numbers.
        for book in ((2, []), (2, [(("went", 1, 1), 1)]), (2, [(YES, 1)]), (2, [(("went", 0, 1), 0), (YES, 1)])):
            table = choice_table(book)
            stands = list(table)
            behind = {stand: steps_off(book, table, list(stand), 1)[1] for stand in stands}
            for who in (0, 1):
                right = 0
                for number in range(5 ** 3):
                    waits = [(None, 1, 2, 3, 4)[number // 5 ** place % 5] for place in range(3)]
                    told = dict(zip(stands, waits))
                    wanted = True
                    for stand, wait in told.items():
                        here, later = table[stand] == who, told[behind[stand]]
                        if wait is None and (here or later is not None):
                            wanted = False
                        if wait is not None and not here and (later is None or later >= wait):
                            wanted = False
                    self.assertIs(waits_hold(book, who, list(told.items())), wanted)
                    right += wanted
                    if wanted:
                        for stand, wait in waits_of(book, who):
                            self.assertIs(told[stand] is None, wait is None)
                            self.assertTrue(wait is None or told[stand] >= wait)
                self.assertGreater(right, 0)


class Laps(unittest.TestCase):
    def test_plainly(self):
        self.assertEqual(laps_of((1, [])), [[0]])
        self.assertEqual(laps_of((2, [])), [[0, 1]])
        self.assertEqual(laps_of((3, [])), [[0, 1, 2], [0, 2, 1]])
        self.assertEqual(laps_of((2, [(YES, 1)])), [[1]])
        self.assertEqual(laps_of(STUCK), [[0, 2], [1]])
        self.assertEqual(laps_of((2, [(("went", 0, 1), 0), (("went", 1, 1), 1)])), [[0], [1]])
        self.assertEqual(laps_of((2, [(("went", 0, 2), 0), (("went", 1, 2), 1)])), [[0], [0, 1], [1]])
        self.assertEqual([len(lap) for lap in laps_of(counting(4))], [1, 15])

    def test_all_laps_of_three_turns(self):
        book = (3, [(("went", who, 3), who) for who in range(3)])
        wanted = {min(tuple(past[turns:] + past[:turns]) for turns in range(3)) for past in pasts_to(3, 3) if len(past) == 3}
        wanted = [[lap[0]] if len(set(lap)) == 1 else list(lap) for lap in wanted]
        self.assertEqual(laps_of(book), sorted(wanted))

    def test_held_against_the_rows(self):
        numbers, lengths = set(), set()
        for book in books():
            table = choice_table(book)
            laps = {tuple(slow_lap(book, table, list(stand))) for stand in table}
            told = laps_of(book)
            self.assertEqual(told, [list(lap) for lap in sorted(laps)])
            self.assertEqual({type(lap) for lap in told}, {list})
            numbers.add(len(told))
            lengths |= {len(lap) for lap in told}
            for who in range(book[0]):
                never = any(wait is None for stand, wait in waits_of(book, who))
                self.assertIs(never, any(who not in lap for lap in told))
        self.assertTrue({1, 2, 3} <= numbers)
        self.assertTrue({1, 2, 3, 4, 31} <= lengths)
