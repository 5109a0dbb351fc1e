"""What the tests share: odd things of all kinds, and a second reckoning by Python's own fractions."""

import random
from decimal import Decimal
from fractions import Fraction
from itertools import product


class Sulky:
    """A thing that can be asked nothing."""

    def sulk(self, *told):
        raise RuntimeError("asked")

    __eq__ = __ne__ = __lt__ = __le__ = __gt__ = __ge__ = sulk
    __len__ = __iter__ = __bool__ = __hash__ = __getitem__ = __contains__ = sulk
    __int__ = __index__ = __add__ = __radd__ = __sub__ = __rsub__ = sulk


def anything():
    """Things of many kinds, made anew; none of them is a whole number."""
    ring = []
    ring.append(ring)
    deep = []
    for level in range(2000):
        deep = [deep]
    return [
        None, True, False, 0.0, 1.0, 0.5, float("nan"), float("inf"), 1j, Decimal(1), Fraction(1),
        "", "0", "1", "over", b"", b"0", bytearray(b"1"), [], [1], [[]], (), (1,), ((),), {}, {0: 1}, {1: [1]},
        set(), {1}, frozenset([1]), range(3), iter([1]), (one for one in [1]), object(), int, list, len,
        Ellipsis, NotImplemented, ValueError("1"), Sulky(), [Sulky()], (Sulky(), Sulky()), ring, deep,
    ]


def no_whole_between(low, high):
    """Things of which none is a whole number from low to high."""
    return anything() + [low - 1, high + 1, low - 10 ** 70, high + 10 ** 70]


def pair(one):
    """A fraction of Python's own as the program has it."""
    return (one.numerator, one.denominator)


def dues(spells):
    """The dues of all claimants behind 0 turns and behind each further one."""
    told = [[Fraction(0) for weight in spells[0][1]]]
    for turns, weights in spells:
        for turn in range(turns):
            told.append([due + Fraction(weight, sum(weights)) for due, weight in zip(told[-1], weights)])
    return told


def lags(spells, row):
    """The lags of all claimants behind 0 turns of a row and behind each further one."""
    told = dues(spells)[:len(row) + 1]
    return [[due - row[:turns].count(who) for who, due in enumerate(line)] for turns, line in enumerate(told)]


def lag_fits(bound, lag):
    """Whether a lag keeps a bound."""
    most = Fraction(*bound[0])
    return abs(lag) < most if bound[1] else abs(lag) <= most


def row_fits(spells, bound, row):
    """Whether a row keeps a bound."""
    return all(lag_fits(bound, lag) for line in lags(spells, row) for lag in line)


def all_rows(spells):
    """All rows of all turns."""
    return [list(row) for row in product(range(len(spells[0][1])), repeat=sum(turns for turns, weights in spells))]


def slow_range(bound, due):
    """A range by its words: numbers are gone through one by one."""
    low = 0
    while not (lag_fits(bound, due - low) or due - low < 0):
        low += 1
    high = int(due + Fraction(*bound[0])) + 2
    while high > 0 and not (lag_fits(bound, high - due) or high - due < 0):
        high -= 1
    return (low, high)


def least_worst(spells):
    """The least worst over all rows of all turns, gone through one by one."""
    return min(max(abs(lag) for line in lags(spells, row) for lag in line) for row in all_rows(spells))


def small_spells(chance, number):
    """Lists of spells, so many, each with few enough rows of all turns to be gone through."""
    told = []
    for one in range(number):
        many = chance.randint(1, 4)
        told.append(random_spells(chance, many, chance.randint(1, (8, 7, 5, 4)[many - 1])))
    return told


def long_plans(chance, number):
    """Lists of eight spells of six claimants and 240 turns together: so many by chance, and some that are even."""
    told = [[(30, [chance.randint(0, 1000) for who in range(6)]) for spell in range(8)] for one in range(number)]
    told.append([(30, [1000, 999, 997, 991, 983, 977 - spell]) for spell in range(8)])
    told.append([(30, [1, 1, 1, 1, 1, 1])] * 8)
    told.append([(30, [990 * (who == spell % 6) + who for who in range(6)]) for spell in range(8)])
    return told


def lag_sizes(spells):
    """The sizes, rising, that lags of a plan have below or at 1."""
    parts = {due % 1 for line in dues(spells) for due in line}
    return [pair(one) for one in sorted(parts | {1 - part for part in parts})]


def wrong_bounds():
    """Things that are no bound, of any kind."""
    told = anything() + [0, 1, 300, ((1, 2),), ((1, 2), True, True), [(1, 2), True], (True, (1, 2)), (1, 2), "1/2", "<1"]
    told += [((1, 2), strict) for strict in anything() + [0, 1] if strict is not True and strict is not False]
    mosts = anything() + [0, 1, -1, 300, Fraction(1, 2), [1, 2], (1,), (1, 2, 3), (1, 0), (0, 0), (1, -2), (-1, -2)]
    mosts += [(-1, 1), (-1, 300), (301, 1), (601, 2), (300 * 10 ** 50 + 1, 10 ** 50), (10 ** 60, 7)]
    mosts += [(2, 4), (0, 2), (0, 300), (300, 300), (600, 2), (True, 1), (1, True), (False, 1), (1.0, 2), (1, 2.0)]
    mosts += [(thing, 1) for thing in anything()] + [(1, thing) for thing in anything()]
    told += [(most, strict) for most in mosts for strict in (True, False)]
    return told


def wrong_runnings():
    """Things that are no running, of any kind."""
    told = anything() + [0, ([0],), ([0], [1], [2]), [[0], [1]], ([], []), ([0, 1], []), ((0,), [1]), ([0], (1,)), "ab"]
    told += [(head, [0]) for head in anything() if type(head) is not list]
    told += [([0], lap) for lap in anything() if type(lap) is not list]
    for thing in no_whole_between(0, 5):
        told += [([thing], [0]), ([0, thing, 1], [0]), ([], [thing]), ([1], [0, 1, thing])]
    return told


def long_row(running, turns):
    """The first so many turns of a running, one by one."""
    head, lap = running
    row = list(head)
    while len(row) < turns:
        row += lap
    return row[:turns]


def random_running(chance, many):
    """A running of so many claimants; some laps are a shorter one taken so many times, some heads end as the lap does."""
    lap = [chance.randrange(many) for turn in range(chance.randint(1, 6))] * chance.choice([1, 1, 2, 3])
    head = [chance.randrange(many) for turn in range(chance.randint(0, 6))]
    return (head + chance.choice([[], [], lap[-1:], lap[-2:], lap, lap + lap]), lap)


def wrong_weights():
    """Things that are no weights of a spell, of any kind."""
    told = [thing for thing in anything() if type(thing) is not list]
    told += [[], [0], [0, 0], [1] * 7, [0] * 5 + [1] * 2, (1, 2), {0: 1}, "12", 3, None, range(1, 3), [[1, 2]], [(1, 2)]]
    for weight in no_whole_between(0, 1000):
        told += [[weight], [weight, 1], [1, weight], [1, weight, 1]]
    return told


def nested(word, sentence, times):
    """A sentence so many times within "not", or within "and" or "or" of it alone."""
    for time in range(times):
        sentence = (word, sentence if word == "not" else (sentence,))
    return sentence


def wrong_sentences():
    """Things that are no sentence, of any kind."""
    went, ring = ("went", 0, 1), []
    ring.append(("not", ring))
    told = anything() + [0, "went", list(went), ["not", went], ["and", ()], ("not",), ("and",), ("or",), ("went",)]
    told += [("Went", 0, 1), ("go", 0, 1), (b"went", 0, 1), (0, "went", 1), ("", 0, 1), (None, 0, 1), ("xor", (went,))]
    told += [("went", 0), ("went", 0, 1, 1), ("often", 0, 1), ("often", 0, 1, 1, 1), ("more", 0, 1), ("more", 0, 1, 1, 1)]
    told += [("not", went, went), ("and", (), ()), ("or", (went,), 1), ("and", went, went), ("not", (went,)), went + went]
    told += [("and", [went]), ("or", [went]), ("and", []), ("or", {}), ("and", went), ("or", 0), ("not", list(went))]
    told += [("and", (went,) * 5), ("or", (went,) * 5), ("and", (went, list(went))), ("or", (went, went, "went"))]
    told += [("more", who, who, 1) for who in range(6)] + [("more", 0, 0, 0), ring[0], ("and", (went, ring[0]))]
    told += [("often", 0, back, back + 1) for back in range(1, 6)] + [("often", 0, 1, True), ("often", 0, True, 1)]
    for thing in no_whole_between(0, 5):
        told += [("went", thing, 1), ("often", thing, 1, 1), ("more", thing, 0, 1), ("more", 0, thing, 1)]
    for thing in no_whole_between(1, 5):
        told += [("went", 0, thing), ("often", 0, thing, 1), ("more", 0, 1, thing), ("often", 0, 5, thing)]
    for thing in anything() + [0, ("went", 0, 6), nested("not", went, 40), nested("and", went, 5000)]:
        told += [("not", thing), ("and", (thing,)), ("or", (went, thing)), ("not", ("or", (("and", (went, thing)),)))]
    return told + [nested(word, went, times) for word in ("not", "and", "or") for times in (40, 41, 3000)]


def wrong_pasts(many):
    """Pairs of a thing that is no past of so many claimants, and the place that is told of it."""
    told = [(thing, -1) for thing in anything() + [0, (0,), "0", [0] * 121, [many] * 121] if type(thing) is not list]
    told += [(thing, -1) for thing in ([0] * 121, [many] * 121, [None] * 500)]
    for thing in no_whole_between(0, many - 1):
        told += [([thing], 0), ([0, thing], 1), ([thing, 0], 0), ([0, 0, thing, thing], 2), ([0] * 119 + [thing], 119)]
    return told


def said(sentence, past):
    """Whether a sentence holds of a past, read turn by turn."""
    word = sentence[0]
    if word == "not":
        return not said(sentence[1], past)
    if word in ("and", "or"):
        return (all if word == "and" else any)([said(one, past) for one in sentence[1]])
    back = sentence[3 if word == "more" else 2]
    ago = {turns: past[len(past) - turns] for turns in range(1, back + 1) if turns <= len(past)}
    if word == "went":
        return ago.get(back) == sentence[1]
    often = [sum(who == one for who in ago.values()) for one in range(6)]
    return often[sentence[1]] >= sentence[3] if word == "often" else often[sentence[1]] > often[sentence[2]]


def backs(sentence):
    """All numbers of turns that a sentence looks back."""
    if sentence[0] == "not":
        return backs(sentence[1])
    if sentence[0] in ("and", "or"):
        return [back for one in sentence[1] for back in backs(one)]
    return [sentence[3] if sentence[0] == "more" else sentence[2]]


def random_sentence(chance, many, most, depth):
    """A sentence on so many claimants that looks back at most so many turns."""
    word = chance.choice(["went", "often", "more", "not", "and", "or"])
    who, back = chance.randrange(many), chance.randint(1, most)
    if word == "often":
        return (word, who, back, chance.randint(1, back))
    if word == "more" and many > 1:
        return (word, *chance.sample(range(many), 2), back)
    if depth == 0 or word in ("went", "more"):
        return ("went", who, back)
    if word == "not":
        return (word, random_sentence(chance, many, most, depth - 1))
    return (word, tuple(random_sentence(chance, many, most, depth - 1) for one in range(chance.choice([0, 1, 2, 2, 3]))))


def random_book(chance, most):
    """A book that looks back at most so many turns, or as many as its claimants ask for."""
    many = chance.randint(1, 4)
    number = chance.choice([0, 1, 2, 3, 5, 8])
    return (many, [(random_sentence(chance, many, most, 2), chance.randrange(many)) for rule in range(number)])


def random_books(seed, number):
    """Books, so many; few of them look back five turns."""
    chance = random.Random(seed)
    return [random_book(chance, chance.choice([1, 2, 2, 3, 3, 4, 5])) for one in range(number)]


def reach_by(book):
    """The reach of a book."""
    return max([book[0] - 1] + [back for sentence, who in book[1] for back in backs(sentence)])


def pasts_to(many, turns):
    """All pasts of so many claimants with at most so many turns, shorter ones first, else in order."""
    return [list(past) for length in range(turns + 1) for past in product(range(many), repeat=length)]


def choice_by(book, past):
    """The number of the rule by which a book chooses behind a past, or None, and the claimant, by their words."""
    many, rules = book
    for number, (sentence, who) in enumerate(rules):
        if said(sentence, past):
            return (number, who)
    ago = {}
    for turns in range(1, min(reach_by(book), len(past)) + 1):
        ago.setdefault(past[len(past) - turns], turns)
    return (None, max(range(many), key=lambda who: (ago.get(who, 1000), -who)))


def row_by(book, past, turns):
    """The first so many turns of the row that a book deals behind a past, gone through one by one."""
    row = list(past)
    for turn in range(turns):
        row.append(choice_by(book, row)[1])
    return row[len(past):]


def choice_table(book):
    """The choices of a book behind all pasts up to its reach, by tuples."""
    return {tuple(past): choice_by(book, past)[1] for past in pasts_to(book[0], reach_by(book))}


def stand_by(book, past):
    """The stand of a past."""
    return tuple(past[max(0, len(past) - reach_by(book)):])


def steps_off(book, table, past, turns):
    """The first so many turns of the row dealt behind a past, and the stand behind them."""
    reach, stand, row = reach_by(book), stand_by(book, past), []
    for turn in range(turns):
        row.append(table[stand])
        stand = (stand + (table[stand],))[max(0, len(stand) + 1 - reach):]
    return row, stand


def around(many):
    """A book of so many claimants with a long lap: who went five turns ago hands on to the next one."""
    return (many, [(("went", who, 5), (who + 1) % many) for who in range(many)])


def counting(many):
    """A book of two claimants that goes through all stands of so many turns, 3 to 5, but that of noughts."""
    # The next choice is 1 just where one of two choices is, but not both: the one longest ago, and one behind it.
    one, other = ("went", 1, many), ("went", 1, {3: 2, 4: 3, 5: 3}[many])
    return (2, [(("or", (("and", (one, ("not", other))), ("and", (other, ("not", one))))), 1), (("and", ()), 0)])


def wrong_books():
    """Pairs of a thing that is no book, and the place that is told of it."""
    went = ("went", 0, 1)
    told = [(thing, -1) for thing in anything() + [0, (2,), (2, [], []), [2, []], ([], 2), "2", (2, ()), (2, ((went, 0),))]]
    told += [((thing, []), -1) for thing in no_whole_between(1, 4)] + [((0, [(went, 0)]), -1), ((5, []), -1)]
    told += [((2, thing), -1) for thing in anything() + [0, [(went, 0)] * 9, [0] * 9] if type(thing) is not list or len(thing) > 8]
    rules = anything() + [0, (went,), (went, 0, 0), [went, 0], (0, went), went, (went, went), ("went", 0)]
    rules += [(thing, 0) for thing in wrong_sentences()] + [(went, thing) for thing in no_whole_between(0, 2)]
    rules += [(("went", 3, 1), 0), (("often", 3, 1, 1), 0), (("more", 3, 0, 1), 0), (("more", 0, 3, 1), 0), (went, 3)]
    rules += [(("not", ("went", 3, 1)), 0), (("and", (went, ("or", (went, ("went", 4, 2))))), 0), (("more", 0, 5, 1), 0)]
    for rule in rules:
        told += [((3, [rule]), 0), ((3, [(went, 1), rule, rule]), 1)]
    told += [((3, [(went, 2)] * 7 + [rule]), 7) for rule in rules[-20:]]
    return told + [((1, [(("went", 1, 1), 0)]), 0), ((1, [(went, 0), (went, 1)]), 1)]


def all_papers(turns):
    """All papers for a plan of so many turns."""
    return [(word, a, b) for word in ("over", "under") for b in range(turns + 1) for a in range(b + 1)]


def random_spells(chance, many, turns):
    """A list of spells with so many claimants and turns together."""
    spells = []
    while turns > 0:
        weights = [chance.choice([0, 1, 1, 2, 3, 5, chance.randint(0, 1000)]) for who in range(many)]
        length = chance.randint(1, min(turns, 60))
        if len(spells) == 7:
            length = turns
        if sum(weights) > 0:
            spells.append((length, weights))
            turns -= length
    return spells


class Refusals:
    """Mixed into test cases: asks that a call is refused."""

    def refused(self, error, call, *told):
        """The error with which a call is refused, of just that class."""
        with self.assertRaises(error) as caught:
            call(*told)
        self.assertIs(type(caught.exception), error)
        return caught.exception

    def refused_at(self, error, at, call, *told):
        """A call is refused with a field at."""
        self.assertEqual(self.refused(error, call, *told).at, at, told)
