"""How long claimants of a book wait for their next turn, papers on that, and the laps that a book deals."""

from dueturns.books import check_book
from dueturns.checks import is_tuple_of, is_whole, is_whole_within
from dueturns.errors import NoClaimant
from dueturns.runnings import turn_of
from dueturns.stands import choices_of, dealt, stands_behind


def waits_of(book, who):
    """The tuples (stand, wait) of all stands, a wait None where it never ends; NoBook, then NoClaimant."""
    check_book_claimant(book, who)
    choices = choices_of(book)
    waits = ending_waits(choices, stands_behind(book, choices), who)
    return [(stand, waits.get(stand)) for stand in choices]


def wait_behind(book, who, past):
    """The first turn dealt behind a past at which a claimant is chosen, or None; NoBook, NoClaimant, NoRow."""
    check_book_claimant(book, who)
    return turn_of(dealt(book, past), who, 1)


def waits_hold(book, who, thing):
    """Whether a thing, of any kind, is a right list of a claimant's waits; NoBook, then NoClaimant."""
    check_book_claimant(book, who)
    choices = choices_of(book)
    if not are_waits(thing, list(choices)):
        return False
    told = {stand: wait for stand, wait in thing}
    behind = stands_behind(book, choices)
    return all([is_right_wait(told[stand], told[behind[stand]], choices[stand] == who) for stand in choices])


def laps_of(book):
    """The laps of all rows that a book deals, each turned so that it is least, in order; NoBook."""
    check_book(book)
    choices = choices_of(book)
    behind = stands_behind(book, choices)
    laps = []
    walk_at = {}
    for walk, start in enumerate(choices):
        stand = start
        while stand not in walk_at:
            walk_at[stand] = walk
            stand = behind[stand]
        # Only a walk that comes to where it was itself has found a new lap.
        if walk_at[stand] == walk:
            laps.append(least_turned([choices[one] for one in round_from(behind, stand)]))
    return sorted(laps)


def check_book_claimant(book, who):
    """NoBook for what is no book, then NoClaimant for what is no claimant of it."""
    check_book(book)
    if not is_whole_within(who, 0, book[0] - 1):
        raise NoClaimant("no such claimant in the book")


def ending_waits(choices, behind, who):
    """A claimant's waits at all stands at which they end; behind tells the stand behind each stand."""
    ahead = {stand: [] for stand in choices}
    for stand in choices:
        ahead[behind[stand]].append(stand)
    waits = {}
    wait = 1
    alike = [stand for stand in choices if choices[stand] == who]
    while len(alike) > 0:
        for stand in alike:
            waits[stand] = wait
        alike = [one for stand in alike for one in ahead[stand] if one not in waits]
        wait += 1
    return waits


def are_waits(thing, stands):
    """Whether a thing, of any kind, is a list of tuples (stand, wait) for these stands, right or not."""
    if not isinstance(thing, list) or len(thing) != len(stands):
        return False
    return all([is_line(one, stand) for one, stand in zip(thing, stands)])


def is_line(thing, stand):
    """Whether a thing, of any kind, is a tuple of this stand and what may be told as a wait."""
    return is_tuple_of(thing, 2) and is_stand(thing[0], stand) and is_wait(thing[1])


def is_stand(thing, stand):
    """Whether a thing, of any kind, is this stand."""
    # True and 1.0 are equal to 1, but they are no choices.
    return is_tuple_of(thing, len(stand)) and all([is_whole(who) for who in thing]) and thing == stand


def is_wait(thing):
    """Whether a thing, of any kind, may be told as a wait."""
    return thing is None or (is_whole(thing) and thing >= 1)


def is_right_wait(wait, later, is_chosen):
    """Whether a wait fits the one behind, where the claimant is chosen or not."""
    if wait is None:
        return not is_chosen and later is None
    return is_chosen or (later is not None and later < wait)


def round_from(behind, start):
    """The stands from one that comes again until it does."""
    told = [start]
    stand = behind[start]
    while stand != start:
        told.append(stand)
        stand = behind[stand]
    return told


def least_turned(lap):
    """A lap turned so that it is least as a list."""
    return min([lap[turns:] + lap[:turns] for turns in range(len(lap))])
