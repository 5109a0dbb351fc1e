"""What the tests share: odd things of all kinds, and a second reckoning by Python's own fractions."""

from decimal import Decimal
from fractions import Fraction
from itertools import product


class Sulky:
    """A thing that can be asked nothing."""

    def sulk(self, *told):
        raise RuntimeError("asked")

    __eq__ = __ne__ = __lt__ = __le__ = __gt__ = __ge__ = sulk
    __len__ = __iter__ = __bool__ = __hash__ = __getitem__ = __contains__ = sulk
    __int__ = __index__ = __add__ = __radd__ = __sub__ = __rsub__ = sulk


def anything():
    """Things of many kinds, made anew; none of them is a whole number."""
    ring = []
    ring.append(ring)
    deep = []
    for level in range(2000):
        deep = [deep]
    return [
        None, True, False, 0.0, 1.0, 0.5, float("nan"), float("inf"), 1j, Decimal(1), Fraction(1),
        "", "0", "1", "over", b"", b"0", bytearray(b"1"), [], [1], [[]], (), (1,), ((),), {}, {0: 1}, {1: [1]},
        set(), {1}, frozenset([1]), range(3), iter([1]), (one for one in [1]), object(), int, list, len,
        Ellipsis, NotImplemented, ValueError("1"), Sulky(), [Sulky()], (Sulky(), Sulky()), ring, deep,
    ]


def no_whole_between(low, high):
    """Things of which none is a whole number from low to high."""
    return anything() + [low - 1, high + 1, low - 10 ** 70, high + 10 ** 70]


def pair(one):
    """A fraction of Python's own as the program has it."""
    return (one.numerator, one.denominator)


def dues(spells):
    """The dues of all claimants behind 0 turns and behind each further one."""
    told = [[Fraction(0) for weight in spells[0][1]]]
    for turns, weights in spells:
        for turn in range(turns):
            told.append([due + Fraction(weight, sum(weights)) for due, weight in zip(told[-1], weights)])
    return told


def lags(spells, row):
    """The lags of all claimants behind 0 turns of a row and behind each further one."""
    told = dues(spells)[:len(row) + 1]
    return [[due - row[:turns].count(who) for who, due in enumerate(line)] for turns, line in enumerate(told)]


def lag_fits(bound, lag):
    """Whether a lag keeps a bound."""
    most = Fraction(*bound[0])
    return abs(lag) < most if bound[1] else abs(lag) <= most


def row_fits(spells, bound, row):
    """Whether a row keeps a bound."""
    return all(lag_fits(bound, lag) for line in lags(spells, row) for lag in line)


def all_rows(spells):
    """All rows of all turns."""
    return [list(row) for row in product(range(len(spells[0][1])), repeat=sum(turns for turns, weights in spells))]


def slow_range(bound, due):
    """A range by its words: numbers are gone through one by one."""
    low = 0
    while not (lag_fits(bound, due - low) or due - low < 0):
        low += 1
    high = int(due + Fraction(*bound[0])) + 2
    while high > 0 and not (lag_fits(bound, high - due) or high - due < 0):
        high -= 1
    return (low, high)


def least_worst(spells):
    """The least worst over all rows of all turns, gone through one by one."""
    return min(max(abs(lag) for line in lags(spells, row) for lag in line) for row in all_rows(spells))


def small_spells(chance, number):
    """Lists of spells, so many, each with few enough rows of all turns to be gone through."""
    told = []
    for one in range(number):
        many = chance.randint(1, 4)
        told.append(random_spells(chance, many, chance.randint(1, (8, 7, 5, 4)[many - 1])))
    return told


def long_plans(chance, number):
    """Lists of eight spells of six claimants and 240 turns together: so many by chance, and some that are even."""
    told = [[(30, [chance.randint(0, 1000) for who in range(6)]) for spell in range(8)] for one in range(number)]
    told.append([(30, [1000, 999, 997, 991, 983, 977 - spell]) for spell in range(8)])
    told.append([(30, [1, 1, 1, 1, 1, 1])] * 8)
    told.append([(30, [990 * (who == spell % 6) + who for who in range(6)]) for spell in range(8)])
    return told


def lag_sizes(spells):
    """The sizes, rising, that lags of a plan have below or at 1."""
    parts = {due % 1 for line in dues(spells) for due in line}
    return [pair(one) for one in sorted(parts | {1 - part for part in parts})]


def wrong_bounds():
    """Things that are no bound, of any kind."""
    told = anything() + [0, 1, 300, ((1, 2),), ((1, 2), True, True), [(1, 2), True], (True, (1, 2)), (1, 2), "1/2", "<1"]
    told += [((1, 2), strict) for strict in anything() + [0, 1] if strict is not True and strict is not False]
    mosts = anything() + [0, 1, -1, 300, Fraction(1, 2), [1, 2], (1,), (1, 2, 3), (1, 0), (0, 0), (1, -2), (-1, -2)]
    mosts += [(-1, 1), (-1, 300), (301, 1), (601, 2), (300 * 10 ** 50 + 1, 10 ** 50), (10 ** 60, 7)]
    mosts += [(2, 4), (0, 2), (0, 300), (300, 300), (600, 2), (True, 1), (1, True), (False, 1), (1.0, 2), (1, 2.0)]
    mosts += [(thing, 1) for thing in anything()] + [(1, thing) for thing in anything()]
    told += [(most, strict) for most in mosts for strict in (True, False)]
    return told


def wrong_runnings():
    """Things that are no running, of any kind."""
    told = anything() + [0, ([0],), ([0], [1], [2]), [[0], [1]], ([], []), ([0, 1], []), ((0,), [1]), ([0], (1,)), "ab"]
    told += [(head, [0]) for head in anything() if type(head) is not list]
    told += [([0], lap) for lap in anything() if type(lap) is not list]
    for thing in no_whole_between(0, 5):
        told += [([thing], [0]), ([0, thing, 1], [0]), ([], [thing]), ([1], [0, 1, thing])]
    return told


def long_row(running, turns):
    """The first so many turns of a running, one by one."""
    head, lap = running
    row = list(head)
    while len(row) < turns:
        row += lap
    return row[:turns]


def random_running(chance, many):
    """A running of so many claimants; some laps are a shorter one taken so many times, some heads end as the lap does."""
    lap = [chance.randrange(many) for turn in range(chance.randint(1, 6))] * chance.choice([1, 1, 2, 3])
    head = [chance.randrange(many) for turn in range(chance.randint(0, 6))]
    return (head + chance.choice([[], [], lap[-1:], lap[-2:], lap, lap + lap]), lap)


def wrong_weights():
    """Things that are no weights of a spell, of any kind."""
    told = [thing for thing in anything() if type(thing) is not list]
    told += [[], [0], [0, 0], [1] * 7, [0] * 5 + [1] * 2, (1, 2), {0: 1}, "12", 3, None, range(1, 3), [[1, 2]], [(1, 2)]]
    for weight in no_whole_between(0, 1000):
        told += [[weight], [weight, 1], [1, weight], [1, weight, 1]]
    return told


def all_papers(turns):
    """All papers for a plan of so many turns."""
    return [(word, a, b) for word in ("over", "under") for b in range(turns + 1) for a in range(b + 1)]


def random_spells(chance, many, turns):
    """A list of spells with so many claimants and turns together."""
    spells = []
    while turns > 0:
        weights = [chance.choice([0, 1, 1, 2, 3, 5, chance.randint(0, 1000)]) for who in range(many)]
        length = chance.randint(1, min(turns, 60))
        if len(spells) == 7:
            length = turns
        if sum(weights) > 0:
            spells.append((length, weights))
            turns -= length
    return spells


class Refusals:
    """Mixed into test cases: asks that a call is refused."""

    def refused(self, error, call, *told):
        """The error with which a call is refused, of just that class."""
        with self.assertRaises(error) as caught:
            call(*told)
        self.assertIs(type(caught.exception), error)
        return caught.exception

    def refused_at(self, error, at, call, *told):
        """A call is refused with a field at."""
        self.assertEqual(self.refused(error, call, *told).at, at, told)
