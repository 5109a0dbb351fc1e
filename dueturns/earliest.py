"""A row that keeps a bound, made by earliest ends, or a paper that none does."""

from dueturns.ranges import check_bound, ranges_behind


def kept_by(plan, bound):
    """("row", row), a row of all turns that keeps the bound, or ("paper", paper); NoBound."""
    check_bound(bound)
    return row_or_paper([ranges_behind(plan, bound, turns) for turns in range(plan.turns() + 1)])


def ends_of(table, who):
    """The last turns for a claimant's first choice, second one and so on, as far as they have one."""
    ends = []
    for turns, ranges in enumerate(table):
        while len(ends) < ranges[who][0]:
            ends.append(turns)
    return ends


def next_end(ends, often, never):
    """The last turn for the choice behind so many others, never where it has none."""
    return ends[often] if often < len(ends) else never


def is_behind(chosen, ranges):
    """Whether some claimant was chosen less often than it must have been."""
    return any([often < low for often, (low, high) in zip(chosen, ranges)])


def most_urgent(chosen, ranges, nexts):
    """Of the claimants that may be chosen the one whose next choice ends first; None where there is none."""
    best = None
    for who, often in enumerate(chosen):
        if often < ranges[who][1] and (best is None or nexts[who] < nexts[best]):
            best = who
    return best


def over_paper(met, turns):
    """The paper for a choice that is missed behind so many turns; met are the ends of the choices made.

    The last turn whose choice had a later end was free for nothing more urgent. So
    all choices behind it, and the missed one, have their windows behind it, too.
    """
    a = turns
    while a > 0 and met[a - 1] <= turns:
        a -= 1
    return ("over", a, turns)


def row_or_paper(table):
    """A row whose counts lie in the ranges of a table, or a paper that there is none.

    Whoever must be chosen soonest goes first; this misses a choice only where
    windows are too many, and finds nobody only where all highs together are too
    few, all lows behind 0 turns being 0.
    """
    ends = [ends_of(table, who) for who in range(len(table[0]))]
    chosen = [0 for end in ends]
    row = []
    met = []
    if is_behind(chosen, table[0]):
        return ("paper", ("over", 0, 0))
    for turns in range(1, len(table)):
        nexts = [next_end(ends[who], often, len(table)) for who, often in enumerate(chosen)]
        who = most_urgent(chosen, table[turns], nexts)
        if who is None:
            return ("paper", ("under", 0, turns))
        row.append(who)
        met.append(nexts[who])
        chosen[who] += 1
        if is_behind(chosen, table[turns]):
            return ("paper", over_paper(met, turns))
    return ("row", row)
