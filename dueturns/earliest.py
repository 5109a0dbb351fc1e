"""A row that keeps a bound, made by earliest ends, or a paper that none does."""

from dueturns.plans import due_lines
from dueturns.ranges import check_bound, range_table

# Every plan has a row of all turns that keeps this bound.
BELOW_ONE = ((1, 1), True)


def kept_by(plan, bound):
    """("row", row), a row of all turns that keeps the bound, or ("paper", paper); NoBound."""
    check_bound(bound)
    return row_or_paper(range_table(bound, due_lines(plan)), [])


def ends_of(table, start, who):
    """The last turns for a claimant's first choice, second one and so on, as far as they have one."""
    ends = []
    for turns, ranges in enumerate(table, start):
        while len(ends) < ranges[who][0]:
            ends.append(turns)
    return ends


def next_end(ends, often, never):
    """The last turn for the choice behind so many others, never where it has none."""
    return ends[often] if often < len(ends) else never


def is_behind(chosen, ranges):
    """Whether some claimant was chosen less often than it must have been."""
    return any([often < low for often, (low, high) in zip(chosen, ranges)])


def is_ahead(chosen, ranges):
    """Whether some claimant was chosen more often than it may have been."""
    return any([often > high for often, (low, high) in zip(chosen, ranges)])


def most_urgent(chosen, ranges, nexts):
    """Of the claimants that may be chosen the one whose next choice ends first; None where there is none."""
    best = None
    for who, often in enumerate(chosen):
        if often < ranges[who][1] and (best is None or nexts[who] < nexts[best]):
            best = who
    return best


def over_paper(met, start, turns):
    """The paper for a choice that is missed behind so many turns; met are the ends of the choices made from start on.

    The last turn whose choice had a later end was free for nothing more urgent. So
    all choices behind it, and the missed one, have their windows behind it, too.
    """
    a = turns
    while a > start and met[a - start - 1] <= turns:
        a -= 1
    return ("over", a, turns)


def stuck_at_once(table, chosen, start):
    """The paper for counts that lie outside of their ranges before anybody more is chosen; None where there is none."""
    if is_behind(chosen, table[0]):
        return ("over", start, start)
    if len(table) > 1 and is_ahead(chosen, table[1]):
        return ("over", start + 1, start + 1)
    return None


def row_or_paper(table, begun):
    """A row that begins so and whose counts lie in the ranges of a table, or a paper that there is none.

    The table has the ranges behind the beginning's turns and behind each further one;
    highs do not fall behind its second line. Whoever must be chosen soonest goes
    first; this misses a choice only where windows are too many, and finds nobody only
    where all highs together are too few, the first lows being what has been chosen.
    """
    start = len(begun)
    ends = [ends_of(table, start, who) for who in range(len(table[0]))]
    chosen = [begun.count(who) for who in range(len(ends))]
    paper = stuck_at_once(table, chosen, start)
    if paper is not None:
        return ("paper", paper)
    row = list(begun)
    met = []
    for turns, ranges in enumerate(table[1:], start + 1):
        nexts = [next_end(ends[who], often, start + len(table)) for who, often in enumerate(chosen)]
        who = most_urgent(chosen, ranges, nexts)
        if who is None:
            return ("paper", ("under", start, turns))
        row.append(who)
        met.append(nexts[who])
        chosen[who] += 1
        if is_behind(chosen, ranges):
            return ("paper", over_paper(met, start, turns))
    return ("row", row)
