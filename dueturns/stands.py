"""Stands: as much of a past as a book looks at, and the endless rows that a book deals behind them."""

from dueturns.books import book_reach, check_book, choice_behind, rule_behind
from dueturns.runnings import least_of
from dueturns.sentences import check_past, last_turns


def all_pasts(many, reach):
    """All pasts of so many claimants and at most so many turns, as tuples, shorter ones first, else in order."""
    told = [()]
    longest = [()]
    for turns in range(reach):
        longest = [(*past, who) for past in longest for who in range(many)]
        told.extend(longest)
    return told


def book_stands(book):
    """All stands of a book that is not checked, shorter ones first, else in the order of tuples."""
    return all_pasts(book[0], book_reach(book))


def stands_of(book):
    """All stands of a book, shorter ones first, else in the order of tuples; NoBook."""
    check_book(book)
    return book_stands(book)


def stand_of(book, past):
    """The stand of a past: its last choices, as many as the book's reach; NoBook, then NoRow."""
    check_book(book)
    check_past(past, book[0])
    return tuple(last_turns(past, book_reach(book)))


def next_stand(stand, who, reach):
    """The stand behind a stand and a choice."""
    return last_turns((*stand, who), reach)


def choices_of(book):
    """The choice of a book at each of its stands, in their order; the book is not checked."""
    reach = book_reach(book)
    return {stand: choice_behind(book, reach, stand) for stand in book_stands(book)}


def stands_behind(book, choices):
    """The stand behind each stand of a book and its choice there; the book is not checked."""
    reach = book_reach(book)
    return {stand: next_stand(stand, choices[stand], reach) for stand in choices}


def dealt(book, past):
    """The endless row that a book deals behind a past, as a running in least form; NoBook, then NoRow."""
    stand = stand_of(book, past)
    reach = book_reach(book)
    turn_at = {}
    row = []
    while stand not in turn_at:
        turn_at[stand] = len(row)
        row.append(choice_behind(book, reach, stand))
        stand = next_stand(stand, row[-1], reach)
    return least_of((row[:turn_at[stand]], row[turn_at[stand]:]))


def idle_rules(book):
    """The numbers, rising, of the rules by which a book chooses behind no past; NoBook."""
    check_book(book)
    used = {rule_behind(book, stand): True for stand in book_stands(book)}
    return [number for number in range(len(book[1])) if number not in used]
