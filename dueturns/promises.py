"""Promises on who goes next where a sentence holds, and the turns and pasts at which they are broken."""

from dueturns.books import book_reach, check_book, choice_behind
from dueturns.checks import is_tuple_of
from dueturns.errors import NoSentence
from dueturns.runnings import check_running, is_any_claimant
from dueturns.sentences import greatest_back, is_sentence, is_so
from dueturns.stands import all_pasts


def check_promise(promise):
    """NoSentence for what is no promise."""
    if not is_tuple_of(promise, 2) or not is_sentence(promise[0]) or not are_rising(promise[1]):
        raise NoSentence("no promise")


def are_rising(thing):
    """Whether a thing, of any kind, is a tuple of one or more claimants, rising."""
    if not isinstance(thing, tuple) or len(thing) == 0 or not all([is_any_claimant(who) for who in thing]):
        return False
    return all([one < other for one, other in zip(thing, thing[1:])])


def breaks(promise, past, who):
    """Whether a choice behind a past breaks a promise."""
    return who not in promise[1] and is_so(promise[0], past)


def broken_in(running, promise):
    """The first turn of a running that breaks a promise, None where there is none; NoRunning, then NoSentence."""
    check_running(running)
    check_promise(promise)
    head, lap = running
    reach = greatest_back(promise[0])
    # From the turn on at which the promise looks back at laps alone, each lap is like the one ahead of it.
    turns = len(head) + reach + len(lap)
    row = (head + lap * (reach + 1))[:turns]
    for turn, who in enumerate(row, 1):
        if breaks(promise, row[max(0, turn - 1 - reach):turn - 1], who):
            return turn
    return None


def broken_by(book, promise):
    """The first past, shorter ones ahead, behind which a book breaks a promise, or None; NoBook, then NoSentence."""
    check_book(book)
    check_promise(promise)
    reach = book_reach(book)
    for past in all_pasts(book[0], max(reach, greatest_back(promise[0]))):
        if breaks(promise, past, choice_behind(book, reach, past)):
            return list(past)
    return None
