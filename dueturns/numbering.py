"""The rows of all turns that keep a bound: counted, and led to their numbers and back."""

from dueturns.checks import is_whole_within
from dueturns.errors import NoNumber, NoRow, TooMany
from dueturns.plans import due_lines
from dueturns.ranges import check_bound, range_table
from dueturns.rows import check_row


def how_many(plan, bound):
    """How many rows of all turns keep a bound; NoBound, then TooMany."""
    return all_ways(ways_on(checked_table(plan, bound)))


def how_many_begin(plan, bound, row):
    """How many of these rows begin with a row of the plan; NoBound, then TooMany, then NoRow."""
    table = checked_table(plan, bound)
    check_row(plan, row)
    if first_outside(table, row) is not None:
        return 0
    chosen = tuple([row.count(who) for who in range(plan.many())])
    return ways_on(table)[len(row)][chosen]


def number_of(plan, bound, row):
    """The number of such a row, from 0 on; NoBound, then TooMany, then NoRow."""
    table = checked_table(plan, bound)
    check_kept(plan, table, row)
    return place_among(ways_on(table), row, plan.many())


def row_at(plan, bound, number):
    """The row of a number; NoBound, then TooMany, then NoNumber."""
    ways = ways_on(checked_table(plan, bound))
    if not is_whole_within(number, 0, all_ways(ways) - 1):
        raise NoNumber("no row has such a number")
    return row_among(ways, number, plan.many())


def next_row(plan, bound, row):
    """The row with the number above, None behind the last one; NoBound, then TooMany, then NoRow."""
    table = checked_table(plan, bound)
    check_kept(plan, table, row)
    ways = ways_on(table)
    number = place_among(ways, row, plan.many()) + 1
    return row_among(ways, number, plan.many()) if number < all_ways(ways) else None


def checked_table(plan, bound):
    """The ranges behind 0 turns and behind each further one; NoBound, then TooMany for a most above 1.

    With a most above 1 there would be too many unlike counts to be gone through.
    """
    check_bound(bound)
    top, bottom = bound[0]
    if top > bottom:
        raise TooMany("rows are numbered for bounds up to 1")
    return range_table(bound, due_lines(plan))


def none_chosen(many):
    """The counts behind 0 turns."""
    return tuple([0 for who in range(many)])


def one_more(chosen, who):
    """The counts with one more choice of a claimant."""
    return chosen[:who] + (chosen[who] + 1,) + chosen[who + 1:]


def lie_within(chosen, ranges):
    """Whether all counts lie in their ranges."""
    return all([low <= often <= high for often, (low, high) in zip(chosen, ranges)])


def first_outside(table, row):
    """The least number of turns of a row behind which a count lies outside of its range; None where there is none."""
    chosen = none_chosen(len(table[0]))
    if not lie_within(chosen, table[0]):
        return 0
    for turns, who in enumerate(row, 1):
        chosen = one_more(chosen, who)
        if not lie_within(chosen, table[turns]):
            return turns
    return None


def check_kept(plan, table, row):
    """NoRow for what is no row of all turns whose counts lie in the ranges of a table."""
    check_row(plan, row)
    if len(row) < plan.turns():
        raise NoRow(len(row))
    turns = first_outside(table, row)
    if turns is not None:
        raise NoRow(turns)


def stages_of(table):
    """Behind 0 turns and behind each further one the counts of all rows that lie in their ranges so far."""
    start = none_chosen(len(table[0]))
    stages = [[start] if lie_within(start, table[0]) else []]
    for ranges in table[1:]:
        reached = {}
        for chosen in stages[-1]:
            for who in range(len(chosen)):
                reached[one_more(chosen, who)] = True
        stages.append([chosen for chosen in reached if lie_within(chosen, ranges)])
    return stages


def ways_on(table):
    """Behind 0 turns and behind each further one, how many rows of all turns go on from each of the counts there.

    Which rows go on hangs on the counts alone, so all beginnings with like counts are reckoned at once.
    """
    stages = stages_of(table)
    ways = [{chosen: 1 for chosen in stages[-1]}]
    for stage in reversed(stages[:-1]):
        later = ways[-1]
        ways.append({chosen: sum(ways_by_next(later, chosen)) for chosen in stage})
    return ways[::-1]


def ways_by_next(later, chosen):
    """For each claimant how many rows go on with it behind these counts; later are the ways a turn later."""
    return [later.get(one_more(chosen, who), 0) for who in range(len(chosen))]


def all_ways(ways):
    """How many rows there are together."""
    # Behind 0 turns there is one list of counts, or none where a lag of 0 does not keep the bound.
    return sum(ways[0].values())


def place_among(ways, row, many):
    """The number of a row that keeps the bound: how many part from it by a lesser claimant."""
    chosen = none_chosen(many)
    number = 0
    for who, later in zip(row, ways[1:]):
        number += sum(ways_by_next(later, chosen)[:who])
        chosen = one_more(chosen, who)
    return number


def row_among(ways, number, many):
    """The row of a number, from 0 to one less than all."""
    chosen = none_chosen(many)
    row = []
    for later in ways[1:]:
        who = 0
        nexts = ways_by_next(later, chosen)
        while number >= nexts[who]:
            number -= nexts[who]
            who += 1
        row.append(who)
        chosen = one_more(chosen, who)
    return row
