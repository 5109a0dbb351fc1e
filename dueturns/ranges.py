"""Bounds on lags, and the ranges and windows in which they keep counts and choices."""

from dueturns.checks import is_tuple_of, is_whole
from dueturns.errors import NoBound, NoNumber
from dueturns.fractions import ceiling_of, floor_of, is_fraction, less, minus, plus, size_of
from dueturns.plans import dues_behind

MOST_OF_BOUND = 300


def is_bound(thing):
    """Whether a thing, of any kind, is a bound."""
    if not is_tuple_of(thing, 2):
        return False
    most, strict = thing
    if not is_fraction(most) or not isinstance(strict, bool):
        return False
    return 0 <= most[0] <= MOST_OF_BOUND * most[1]


def check_bound(bound):
    """NoBound for what is no bound."""
    if not is_bound(bound):
        raise NoBound("no bound")


def lag_keeps(bound, lag):
    """Whether a lag keeps a bound; neither is checked."""
    most, strict = bound
    if strict:
        return less(size_of(lag), most)
    return not less(most, size_of(lag))


def low_at(bound, due):
    """The least count, from 0 on, that leaves a due not too far ahead."""
    most, strict = bound
    edge = minus(due, most)
    if strict:
        return max(0, floor_of(edge) + 1)
    return max(0, ceiling_of(edge))


def high_at(bound, due):
    """The greatest count that is not too far ahead of a due; 0 where there is none."""
    most, strict = bound
    edge = plus(due, most)
    if strict:
        return max(0, ceiling_of(edge) - 1)
    return floor_of(edge)


def range_at(bound, due):
    """The range of a claimant with a due; the bound is not checked."""
    return (low_at(bound, due), high_at(bound, due))


def range_of(plan, bound, turns, who):
    """The range of a claimant behind so many turns; NoBound, then NoTurns, then NoClaimant."""
    check_bound(bound)
    return range_at(bound, plan.due(turns, who))


def ranges_behind(plan, bound, turns):
    """The ranges of all claimants behind so many turns; the bound is not checked."""
    return [range_at(bound, due) for due in dues_behind(plan, turns)]


def range_table(bound, lines):
    """The ranges of all claimants for each line of dues; the bound is not checked."""
    return [[range_at(bound, due) for due in line] for line in lines]


def window(plan, bound, who, k):
    """The first and last turn of a claimant's k-th choice; NoBound, then NoClaimant, then NoNumber."""
    check_bound(bound)
    plan.check_claimant(who)
    if not is_whole(k) or k < 1:
        raise NoNumber("no such choice")
    first = None
    last = None
    for turns in range(plan.turns() + 1):
        due = plan.due(turns, who)
        if first is None and high_at(bound, due) >= k:
            first = turns
        if last is None and low_at(bound, due) >= k:
            last = turns
    return (first, last)
