"""Points 2, 3 and 60: sentences on pasts."""

import random
import unittest
from itertools import product

from dueturns.errors import NoRow, NoSentence
from dueturns.sentences import holds, is_sentence, reach_of
from tests.helper import Refusals, backs, nested, pasts_to, random_sentence, said, wrong_pasts, wrong_sentences

WENT = ("went", 0, 1)


def side_by_side(many):
    """A sentence of so many together, as many as may be side by side."""
    parts = min(4, many - 1)
    if parts == 0:
        return WENT
    return ("or", tuple(side_by_side((many - 1 + place) // parts) for place in range(parts)))


def count(sentence):
    """How many sentences there are in one, itself too."""
    if sentence[0] == "not":
        return 1 + count(sentence[1])
    return 1 + sum(count(one) for one in sentence[1]) if sentence[0] in ("and", "or") else 1


def leaves():
    """All sentences that look back themselves."""
    told = [("went", who, back) for who in range(6) for back in range(1, 6)]
    told += [("often", who, back, times) for who in range(6) for back in range(1, 6) for times in range(1, back + 1)]
    return told + [("more", *both, back) for both in product(range(6), repeat=2) if both[0] != both[1] for back in range(1, 6)]


class Sentences(unittest.TestCase, Refusals):
    def test_each_word(self):
        for sentence in leaves():
            self.assertIs(is_sentence(sentence), True, sentence)
            self.assertIs(is_sentence(("not", sentence)), True)
        for word in ("and", "or"):
            for many in range(5):
                self.assertIs(is_sentence((word, (WENT,) * many)), True)
            self.assertIs(is_sentence((word, (WENT,) * 5)), False)
            self.assertIs(is_sentence((word, ((word, ()), ("not", (word, ()))))), True)

    def test_forty_together_and_one_more_in_one_another(self):
        for word in ("not", "and", "or"):
            for times in range(1, 40):
                self.assertIs(is_sentence(nested(word, WENT, times)), True)
            for times in (40, 41, 42, 100, 1000, 10000):
                self.assertIs(is_sentence(nested(word, WENT, times)), False)
                self.assertIs(is_sentence(nested("or", nested(word, ("and", ()), 20), times - 20)), False)
            self.assertIs(is_sentence(nested("or", nested(word, ("and", ()), 20), 19)), True)

    def test_forty_together_and_one_more_side_by_side(self):
        for many in range(1, 100):
            sentence = side_by_side(many)
            self.assertEqual(count(sentence), many)
            self.assertIs(is_sentence(sentence), many <= 40, many)
            self.assertIs(is_sentence(("and", (sentence, WENT))), many <= 38, many)
            self.assertIs(is_sentence(("and", (WENT, sentence))), many <= 38, many)
            self.assertIs(is_sentence(("not", sentence)), many <= 39, many)

    def test_far_too_many_of_few_things(self):
        sentence = WENT
        for level in range(3000):
            sentence = ("and", (sentence,) * 4)
        self.assertIs(is_sentence(sentence), False)

    def test_of_anything(self):
        for thing in wrong_sentences():
            self.assertIs(is_sentence(thing), False)

    def test_no_sentence_ahead_of_no_row(self):
        for thing in wrong_sentences():
            self.refused(NoSentence, holds, thing, [])
            self.refused(NoSentence, holds, thing, None)
            self.refused(NoSentence, holds, thing, [6])
            self.refused(NoSentence, reach_of, thing)

    def test_no_row(self):
        for past, at in wrong_pasts(6):
            for sentence in (WENT, ("and", ()), ("or", ())):
                self.refused_at(NoRow, at, holds, sentence, past)

    def test_what_is_made_good_is_taken(self):
        past = [0, 6, 1]
        self.refused_at(NoRow, 1, holds, WENT, past)
        past[1] = 5
        self.assertIs(holds(("went", 5, 2), past), True)
        self.assertEqual(past, [0, 5, 1])


class Holding(unittest.TestCase):
    def test_went(self):
        past = [3, 4, 0, 1, 2]
        for back, who in zip(range(1, 6), [2, 1, 0, 4, 3]):
            for one in range(6):
                self.assertIs(holds(("went", one, back), past), one == who)
                self.assertIs(holds(("went", one, back), [5] * 20 + past), one == who)
        for back in range(1, 6):
            for turns in range(back):
                self.assertIs(holds(("went", 0, back), [0] * turns), False)
            self.assertIs(holds(("went", 0, back), [0] + [1] * (back - 1)), True)
            self.assertIs(holds(("went", 0, back), [0] + [1] * back), False)

    def test_often(self):
        past = [0, 0, 1, 0, 1, 0]
        for back, often in zip(range(1, 6), [1, 1, 2, 2, 3]):
            for times in range(1, back + 1):
                self.assertIs(holds(("often", 0, back, times), past), times <= often)
        for back in range(1, 6):
            for turns in range(back + 1):
                for times in range(1, back + 1):
                    self.assertIs(holds(("often", 2, back, times), [2] * turns), times <= turns)
            self.assertIs(holds(("often", 2, back, 1), [2] + [0] * back), False)
            self.assertIs(holds(("often", 2, back, 1), [2] + [0] * (back - 1)), True)

    def test_more(self):
        self.assertIs(holds(("more", 0, 1, 5), []), False)
        self.assertIs(holds(("more", 0, 1, 5), [0]), True)
        self.assertIs(holds(("more", 0, 1, 5), [1]), False)
        self.assertIs(holds(("more", 0, 1, 5), [2, 0, 1]), False)
        self.assertIs(holds(("more", 0, 1, 5), [0, 2, 1, 0]), True)
        self.assertIs(holds(("more", 0, 1, 2), [0, 0, 1, 2]), False)
        self.assertIs(holds(("more", 1, 0, 2), [0, 0, 1, 2]), True)
        self.assertIs(holds(("more", 1, 0, 3), [0, 0, 1, 2]), False)
        self.assertIs(holds(("more", 5, 0, 1), [0] * 119 + [5]), True)

    def test_joined_ones(self):
        yes, no = ("and", ()), ("or", ())
        self.assertIs(holds(yes, []), True)
        self.assertIs(holds(no, []), False)
        for many in range(5):
            for parts in product((yes, no), repeat=many):
                self.assertIs(holds(("and", parts), [0]), no not in parts)
                self.assertIs(holds(("or", parts), [0]), yes in parts)
                self.assertIs(holds(("not", ("and", parts)), [0]), no in parts)
                self.assertIs(holds(("not", ("or", parts)), [0]), yes not in parts)
        for times in range(40):
            self.assertIs(holds(nested("not", yes, times), [0]), times % 2 == 0)

    def test_all_short_pasts(self):
        for sentence in leaves():
            if max(sentence[1:3]) < 3:
                for past in pasts_to(3, 6):
                    self.assertIs(holds(sentence, past), said(sentence, past), (sentence, past))

    def test_by_chance(self):
        chance = random.Random(60)
        times = {True: 0, False: 0}
        for number in range(3000):
            sentence = random_sentence(chance, 6, 5, 3)
            many = chance.choice([2, 3, 6])
            for turns in (0, 1, 2, 3, 4, 5, 6, 7, 119, 120):
                past = [chance.randrange(many) for turn in range(turns)]
                kept = list(past)
                told = holds(sentence, past)
                self.assertIs(told, said(sentence, past), (sentence, past))
                self.assertEqual(past, kept)
                times[told] += 1
            self.assertEqual(reach_of(sentence), max(backs(sentence), default=0))
            self.assertIs(is_sentence(sentence), True)
        self.assertGreater(min(times.values()), 5000)

    def test_reach(self):
        for sentence in leaves():
            back = sentence[3] if sentence[0] == "more" else sentence[2]
            self.assertEqual(reach_of(sentence), back)
            self.assertEqual(reach_of(nested("not", sentence, 39)), back)
        for sentence in (("and", ()), ("or", ()), ("not", ("or", (("and", ()), ("or", ()))))):
            self.assertEqual(reach_of(sentence), 0)
        self.assertEqual(reach_of(("and", (WENT, ("not", ("more", 0, 1, 4)), ("often", 0, 3, 1)))), 4)
        self.assertEqual(reach_of(("or", (("often", 0, 5, 1), ("went", 0, 4)))), 5)
