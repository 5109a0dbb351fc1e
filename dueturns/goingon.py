"""Going on from a beginning: rows that keep a bound from there on, or papers that there is none."""

from dueturns.earliest import row_or_paper
from dueturns.errors import NoTurns
from dueturns.fractions import minus
from dueturns.least import fairest_from, first_kept
from dueturns.papers import is_paper, is_right
from dueturns.plans import due_lines, dues_behind
from dueturns.ranges import check_bound, lag_keeps, range_at
from dueturns.rows import check_row


def begun_range(plan, bound, row, turns, who):
    """The range of a claimant behind so many turns of a beginning; NoBound, NoRow, NoTurns, NoClaimant."""
    check_beginning(plan, bound, row)
    plan.check_turns(turns, len(row))
    plan.check_claimant(who)
    return begun_ranges(plan, bound, row, turns)[who]


def going_on(plan, bound, row):
    """("row", row), a going on of a beginning, or ("paper", paper); NoBound, then NoRow."""
    check_beginning(plan, bound, row)
    return went_on(bound, due_lines(plan)[len(row):], row)


def shows_stuck(plan, bound, row, thing):
    """Whether a thing, of any kind, is a right paper that a beginning has no going on; NoBound, then NoRow."""
    check_beginning(plan, bound, row)
    if not is_paper(plan, thing):
        return False
    word, a, b = thing
    if a < len(row):
        return False
    return is_right(thing, begun_ranges(plan, bound, row, a), begun_ranges(plan, bound, row, b))


def each_next(plan, bound, row):
    """For each claimant a going on with it next, or whose lag, or which paper bars it; NoBound, NoRow, NoTurns."""
    check_beginning(plan, bound, row)
    check_unended(plan, row)
    lines = due_lines(plan)[len(row) + 1:]
    return [next_told(bound, lines, row + [who]) for who in range(plan.many())]


def fairest_on(plan, row):
    """The least fraction that a going on keeps, such a row, and a paper for the open bound of it; NoRow, NoTurns."""
    check_row(plan, row)
    check_unended(plan, row)
    lines = due_lines(plan)[len(row):]

    def answered(bound):
        return went_on(bound, lines, row)

    # A bad beginning may have made lags of many turns, but none is greater than the number of turns.
    whole = first_kept([(most, 1) for most in range(plan.turns() + 1)], answered)[0]
    return fairest_from(max(0, whole - 1), lines, answered)


def check_beginning(plan, bound, row):
    """NoBound for what is no bound, then NoRow for what is no row of the plan."""
    check_bound(bound)
    check_row(plan, row)


def check_unended(plan, row):
    """NoTurns for a beginning of all turns."""
    if len(row) == plan.turns():
        raise NoTurns("there is no next turn")


def counts_of(row, many):
    """How often each of so many claimants stands in a row."""
    return [row.count(who) for who in range(many)]


def later_ranges(bound, dues, chosen):
    """The ranges with such dues where claimants have been chosen so often before."""
    ranges = [range_at(bound, due) for due in dues]
    return [(max(low, often), high) for (low, high), often in zip(ranges, chosen)]


def begun_ranges(plan, bound, row, turns):
    """The ranges of all claimants behind so many turns of a beginning, from its length on."""
    chosen = counts_of(row, plan.many())
    if turns == len(row):
        return [(often, often) for often in chosen]
    return later_ranges(bound, dues_behind(plan, turns), chosen)


def went_on(bound, lines, begun):
    """A going on or a paper; lines are the dues behind the beginning's turns and behind each further one."""
    chosen = counts_of(begun, len(lines[0]))
    table = [[(often, often) for often in chosen]]
    for dues in lines[1:]:
        table.append(later_ranges(bound, dues, chosen))
    return row_or_paper(table, begun)


def first_broken(bound, dues, begun):
    """The least claimant whose lag right behind a beginning does not keep the bound; None where there is none."""
    for who, due in enumerate(dues):
        if not lag_keeps(bound, minus(due, (begun.count(who), 1))):
            return who
    return None


def next_told(bound, lines, begun):
    """What is told of the last claimant of a beginning; lines are as in went_on."""
    who = first_broken(bound, lines[0], begun)
    if who is not None:
        return ("lag", who)
    return went_on(bound, lines, begun)
