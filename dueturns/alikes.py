"""Books that choose alike, and where those that do not part."""

from dueturns.books import book_reach, check_book, choice_behind
from dueturns.errors import NoBook
from dueturns.runnings import first_apart
from dueturns.stands import all_pasts, dealt


def check_books(one, other):
    """NoBook for what is no book; its at -1 for books of unlike many claimants, too."""
    check_book(one)
    check_book(other)
    if one[0] != other[0]:
        raise NoBook(-1)


def parts_at(one, other):
    """The first past, shorter ones ahead, behind which two books choose otherwise, None where there is none; NoBook."""
    check_books(one, other)
    reach = book_reach(one)
    other_reach = book_reach(other)
    for past in all_pasts(one[0], max(reach, other_reach)):
        if choice_behind(one, reach, past) != choice_behind(other, other_reach, past):
            return list(past)
    return None


def rows_part_at(one, other, past):
    """The first turn at which the rows part that two books deal behind a past, or None; NoBook, then NoRow."""
    check_books(one, other)
    return first_apart(dealt(one, past), dealt(other, past))
