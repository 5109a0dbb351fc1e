"""Weights that stand for ever: the lags of endless rows, and endless rows that keep a bound."""

from dueturns.earliest import BELOW_ONE, kept_by
from dueturns.errors import NoRunning, TooMany
from dueturns.fractions import common_divisor, made
from dueturns.plans import MOST_TURNS, MOST_TURNS_OF_SPELL, Plan, check_weights
from dueturns.ranges import check_bound, lag_keeps
from dueturns.runnings import check_running


def lags_of(weights, running):
    """For each claimant how far its lag goes, or how it drifts; NoPlan, then NoRunning."""
    check_weighted(weights, running)
    return [lags_told(weights, running, who) for who in range(len(weights))]


def broken_at(weights, running, bound):
    """The first turns behind which a lag does not keep the bound, and whose; None; NoPlan, NoRunning, NoBound."""
    check_weighted(weights, running)
    check_bound(bound)
    breaks = [(first_break(weights, running, bound, who), who) for who in range(len(weights))]
    return min([(turns, who) for turns, who in breaks if turns is not None], default=None)


def dealt_for_ever(weights, bound):
    """("running", running), a lap of a round that keeps the bound, or ("paper", paper); NoPlan, NoBound, TooMany."""
    check_weights(weights)
    check_bound(bound)
    turns = round_of(weights)
    if turns > MOST_TURNS:
        raise TooMany("the round has more turns than a plan")
    word, told = kept_by(plan_of(weights, turns), closing_bound(bound))
    if word == "paper":
        return (word, told)
    return ("running", ([], told))


def check_weighted(weights, running):
    """NoPlan for what are no weights, then NoRunning for what is no running of claimants with a weight."""
    check_weights(weights)
    check_running(running)
    head, lap = running
    if max(head + lap) >= len(weights):
        raise NoRunning("a claimant is without a weight")


def lag_tops(weights, row, who):
    """The lags of a claimant behind 0 turns of a row and behind each further one, times the sum of the weights."""
    whole = sum(weights)
    tops = [0]
    for one in row:
        tops.append(tops[-1] + weights[who] - (whole if one == who else 0))
    return tops


def lags_told(weights, running, who):
    """What is told of the lags of one claimant."""
    head, lap = running
    whole = sum(weights)
    tops = lag_tops(weights, head + lap, who)
    drift = tops[-1] - tops[len(head)]
    if drift != 0:
        return ("drifts", made(drift, whole))
    low = min(tops)
    high = max(tops)
    return ("within", made(low, whole), tops.index(low), made(high, whole), tops.index(high))


def first_break(weights, running, bound, who):
    """The first turns behind which a claimant's lag does not keep the bound; None where there are none."""
    head, lap = running
    whole = sum(weights)
    tops = lag_tops(weights, head + lap, who)
    for turns, top in enumerate(tops):
        if not lag_keeps(bound, (top, whole)):
            return turns
    drift = tops[-1] - tops[len(head)]
    if drift == 0:
        return None
    # All places in the lap drift alike, but from unlike lags, so each may be the first one to break.
    later = [laps_till_break(bound, top, drift, whole) for top in tops[len(head) + 1:]]
    return min([len(head) + at + len(lap) * laps for at, laps in enumerate(later, 1)])


def laps_till_break(bound, top, drift, whole):
    """How many laps later a lag, kept now, is the first time not kept; lag and drift are tops over whole."""
    (most, bottom), strict = bound
    if drift < 0:
        top = -top
        drift = -drift
    room = most * whole - top * bottom
    by = drift * bottom
    return -(-room // by) if strict else room // by + 1


def round_of(weights):
    """How many turns there are till all dues are whole."""
    by = 0
    for weight in weights:
        by = common_divisor(by, weight)
    return sum(weights) // by


def plan_of(weights, turns):
    """The plan in which weights stand for so many turns."""
    longs, rest = divmod(turns, MOST_TURNS_OF_SPELL)
    spells = [(MOST_TURNS_OF_SPELL, weights) for number in range(longs)]
    if rest > 0:
        spells.append((rest, weights))
    return Plan(spells)


def closing_bound(bound):
    """A bound that has a row where the given one has, and whose rows of a round end without lags.

    Behind a round all lags are whole, so they are 0 where they must be below 1. Only
    so may the row come again and again.
    """
    top, bottom = bound[0]
    return bound if top < bottom else BELOW_ONE
