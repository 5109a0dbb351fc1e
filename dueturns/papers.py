"""Which rows keep a bound, and papers that show that none does."""

from dueturns.checks import is_tuple_of, is_whole_within
from dueturns.ranges import check_bound, lag_keeps, ranges_behind
from dueturns.rows import all_lags, check_row


def keeps(plan, bound, row):
    """Whether all lags of a row keep a bound; NoBound, then NoRow."""
    check_bound(bound)
    check_row(plan, row)
    return all([lag_keeps(bound, one) for lags in all_lags(plan, row) for one in lags])


def is_paper(plan, thing):
    """Whether a thing, of any kind, is a paper for a plan, right or not."""
    if not is_tuple_of(thing, 3):
        return False
    word, a, b = thing
    if not isinstance(word, str) or word not in ("over", "under"):
        return False
    return is_whole_within(b, 0, plan.turns()) and is_whole_within(a, 0, b)


def least_between(early, late):
    """How many must be chosen between the turns of two lists of ranges."""
    return sum([max(0, after[0] - ahead[1]) for ahead, after in zip(early, late)])


def most_between(early, late):
    """How many can be chosen between the turns of two lists of ranges."""
    return sum([max(0, after[1] - ahead[0]) for ahead, after in zip(early, late)])


def is_right(paper, early, late):
    """Whether a paper is right where these are the ranges behind its first and its second number of turns."""
    word, a, b = paper
    if word == "over":
        return least_between(early, late) > b - a
    return most_between(early, late) < b - a


def shows_none(plan, bound, thing):
    """Whether a thing, of any kind, is a right paper; NoBound."""
    check_bound(bound)
    if not is_paper(plan, thing):
        return False
    word, a, b = thing
    return is_right(thing, ranges_behind(plan, bound, a), ranges_behind(plan, bound, b))
