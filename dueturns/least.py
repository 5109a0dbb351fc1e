"""The fairest row of a plan: the least worst, a row that has it, and a paper that none has a lesser one."""

from dueturns.earliest import row_or_paper
from dueturns.fractions import common_divisor, plus
from dueturns.plans import due_lines
from dueturns.ranges import range_table


def fairest(plan):
    """The least worst of all rows of all turns, such a row, and a paper for the open bound of it."""
    lines = due_lines(plan)
    return fairest_from(0, lines, lambda bound: row_or_paper(range_table(bound, lines), []))


def rising(fractions):
    """Fractions in their order."""
    common = 1
    for top, bottom in fractions:
        common = common // common_divisor(common, bottom) * bottom
    return sorted(fractions, key=lambda one: one[0] * (common // one[1]))


def lag_parts(lines):
    """How far lags without their signs may lie above a whole number, rising from 0 on, for lines of dues."""
    parts = {(0, 1): True}
    for line in lines:
        for top, bottom in line:
            part = top % bottom
            if part > 0:
                parts[(part, bottom)] = True
                parts[(bottom - part, bottom)] = True
    return rising(list(parts))


def first_kept(mosts, answered):
    """The first of rising fractions that some row keeps, as the last one is; answered tells a row or a paper."""
    low = 0
    high = len(mosts) - 1
    while low < high:
        middle = (low + high) // 2
        if answered((mosts[middle], False))[0] == "row":
            high = middle
        else:
            low = middle + 1
    return mosts[low]


def fairest_from(whole, lines, answered):
    """The least fraction, from a whole number to the next one, that some row keeps, such a row, and a paper.

    Only what is the size of some lag can be the least one, so no other fraction is tried.
    """
    mosts = [plus((whole, 1), part) for part in lag_parts(lines)] + [(whole + 1, 1)]
    most = first_kept(mosts, answered)
    return (most, answered((most, False))[1], answered((most, True))[1])
