"""Rows: who is chosen at each turn, how often, and how far that lies from the dues."""

from dueturns.checks import is_whole_within
from dueturns.errors import NoRow, NoTurns
from dueturns.fractions import less, minus, size_of
from dueturns.plans import dues_behind


def check_row(plan, row):
    """NoRow for what is no row of the plan."""
    if not isinstance(row, list):
        raise NoRow(0)
    for at, who in enumerate(row):
        if at >= plan.turns() or not plan.has_claimant(who):
            raise NoRow(at)


def check_row_turns(row, turns):
    """NoTurns for what is no number of turns that a row has."""
    if not is_whole_within(turns, 0, len(row)):
        raise NoTurns("no such turns in the row")


def counts(plan, row, turns):
    """How often each claimant stands among the first so many of a row; NoRow, then NoTurns."""
    check_row(plan, row)
    check_row_turns(row, turns)
    head = row[:turns]
    return [head.count(who) for who in range(plan.many())]


def lag(plan, row, turns, who):
    """A claimant's due less its count behind so many turns; NoRow, then NoTurns, then NoClaimant."""
    check_row(plan, row)
    check_row_turns(row, turns)
    return minus(plan.due(turns, who), (row[:turns].count(who), 1))


def lags_behind(plan, chosen, turns):
    """The lags of all claimants behind so many turns in which each was chosen so often."""
    return [minus(due, (often, 1)) for due, often in zip(dues_behind(plan, turns), chosen)]


def all_lags(plan, row):
    """The lags of all claimants behind 0 turns of a row and behind each further one."""
    chosen = [0 for who in range(plan.many())]
    told = [lags_behind(plan, chosen, 0)]
    for at, who in enumerate(row):
        chosen[who] += 1
        told.append(lags_behind(plan, chosen, at + 1))
    return told


def worst(plan, row):
    """The greatest lag without its sign, the first turns behind which it is there, and whose it is; NoRow."""
    check_row(plan, row)
    most, when, whose = (0, 1), 0, 0
    for turns, lags in enumerate(all_lags(plan, row)):
        for who, one in enumerate(lags):
            if less(most, size_of(one)):
                most, when, whose = size_of(one), turns, who
    return (most, when, whose)
