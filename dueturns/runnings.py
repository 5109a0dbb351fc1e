"""Runnings: endless rows, told by a beginning and a lap that comes again and again."""

from dueturns.checks import is_tuple_of, is_whole_within
from dueturns.errors import NoClaimant, NoNumber, NoRunning
from dueturns.plans import MOST_CLAIMANTS

MOST_NUMBER = 10 ** 40


def is_any_claimant(thing):
    """Whether a thing, of any kind, is a claimant of some plan."""
    return is_whole_within(thing, 0, MOST_CLAIMANTS - 1)


def are_claimants(thing):
    """Whether a thing, of any kind, is a list of claimants."""
    return isinstance(thing, list) and all([is_any_claimant(one) for one in thing])


def check_running(running):
    """NoRunning for what is no running."""
    if not is_tuple_of(running, 2):
        raise NoRunning("no tuple of a head and a lap")
    head, lap = running
    if not are_claimants(head) or not are_claimants(lap) or len(lap) == 0:
        raise NoRunning("no lists of claimants, or a lap without one")


def check_any_claimant(who):
    """NoClaimant for what is no claimant of any plan."""
    if not is_any_claimant(who):
        raise NoClaimant("no such claimant")


def check_number(number, least):
    """NoNumber for what is no whole number from least to the greatest one that is taken."""
    if not is_whole_within(number, least, MOST_NUMBER):
        raise NoNumber("no such number")


def choice_at(running, turn):
    """Who is chosen at a turn; NoRunning, then NoNumber."""
    check_running(running)
    check_number(turn, 1)
    return chosen_at(running, turn)


def count_at(running, who, turns):
    """How often a claimant is chosen in the first so many turns; NoRunning, then NoClaimant, then NoNumber."""
    check_running(running)
    check_any_claimant(who)
    check_number(turns, 0)
    head, lap = running
    if turns <= len(head):
        return head[:turns].count(who)
    laps, rest = divmod(turns - len(head), len(lap))
    return head.count(who) + laps * lap.count(who) + lap[:rest].count(who)


def turn_of(running, who, times):
    """The turn of a claimant's so-manieth choice, None where there is none; NoRunning, NoClaimant, NoNumber."""
    check_running(running)
    check_any_claimant(who)
    check_number(times, 1)
    head, lap = running
    early = turns_with(head, who)
    if times <= len(early):
        return early[times - 1]
    again = turns_with(lap, who)
    if len(again) == 0:
        return None
    laps, rest = divmod(times - len(early) - 1, len(again))
    return len(head) + laps * len(lap) + again[rest]


def least_of(running):
    """The running with the shortest lap, then the shortest head, that tells the same row; NoRunning."""
    check_running(running)
    head, lap = running
    lap = shortest_lap(lap)
    spare = 0
    while spare < len(head) and head[-1 - spare] == lap[-1 - spare % len(lap)]:
        spare += 1
    # Each choice that the head gives away stands at the lap's end, so the lap begins a turn earlier.
    begin = len(lap) - spare % len(lap)
    return (head[:len(head) - spare], lap[begin:] + lap[:begin])


def first_apart(one, other):
    """The first turn at which two runnings choose otherwise, None where there is none; NoRunning."""
    check_running(one)
    check_running(other)
    # Behind both heads rows that are alike for as many turns as both laps have together are alike for ever.
    last = max(len(one[0]), len(other[0])) + len(one[1]) + len(other[1])
    for turn in range(1, last + 1):
        if chosen_at(one, turn) != chosen_at(other, turn):
            return turn
    return None


def chosen_at(running, turn):
    """Who is chosen at a turn; neither is checked."""
    head, lap = running
    if turn <= len(head):
        return head[turn - 1]
    return lap[(turn - len(head) - 1) % len(lap)]


def turns_with(row, who):
    """The turns of a list at which a claimant is chosen."""
    return [turn for turn, one in enumerate(row, 1) if one == who]


def shortest_lap(lap):
    """The shortest list that makes the lap where it is taken so many times."""
    many = len(lap)
    turns = 1
    while many % turns != 0 or lap[:turns] * (many // turns) != lap:
        turns += 1
    return lap[:turns]
