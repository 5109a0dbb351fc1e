"""Plans: spells of turns with weights, and the shares and dues that follow from them."""

from dueturns.checks import is_tuple_of, is_whole_within
from dueturns.errors import NoClaimant, NoPlan, NoTurns
from dueturns.fractions import made, plus

MOST_SPELLS = 8
MOST_TURNS = 240
MOST_TURNS_OF_SPELL = 60
MOST_CLAIMANTS = 6
MOST_WEIGHT = 1000


def are_weights(thing):
    """Whether a thing, of any kind, is a list of weights as a spell has them."""
    if not isinstance(thing, list) or not 1 <= len(thing) <= MOST_CLAIMANTS:
        return False
    return all([is_whole_within(weight, 0, MOST_WEIGHT) for weight in thing]) and sum(thing) > 0


def check_weights(weights):
    """NoPlan, its at 0, for what is no list of weights as a spell has them."""
    if not are_weights(weights):
        raise NoPlan(0)


def is_spell(thing):
    """Whether a thing, of any kind, is a spell."""
    if not is_tuple_of(thing, 2):
        return False
    turns, weights = thing
    return is_whole_within(turns, 1, MOST_TURNS_OF_SPELL) and are_weights(weights)


def parts_of(spells):
    """The spells of a list with their weights as tuples, so that nothing hangs on the list; else NoPlan."""
    if not isinstance(spells, list) or len(spells) == 0:
        raise NoPlan(0)
    parts = []
    left = MOST_TURNS
    for at, spell in enumerate(spells):
        if at >= MOST_SPELLS or not is_spell(spell):
            raise NoPlan(at)
        turns, weights = spell
        if turns > left or (at > 0 and len(weights) != len(parts[0][1])):
            raise NoPlan(at)
        left -= turns
        parts.append((turns, tuple(weights)))
    return parts


def dues_ahead(parts):
    """For each spell the dues of all claimants behind the spells ahead of it."""
    dues = [(0, 1) for weight in parts[0][1]]
    ahead = []
    for turns, weights in parts:
        ahead.append(dues)
        dues = [plus(due, made(turns * weight, sum(weights))) for due, weight in zip(dues, weights)]
    return ahead


def dues_behind(plan, turns):
    """The dues of all claimants behind so many turns."""
    return [plan.due(turns, who) for who in range(plan.many())]


def due_lines(plan):
    """The dues of all claimants behind 0 turns of a plan and behind each further one."""
    return [dues_behind(plan, turns) for turns in range(plan.turns() + 1)]


class Plan:
    """A plan, made of a list of spells (turns, weights)."""

    def __init__(self, spells):
        self.parts = parts_of(spells)
        # Dues are asked for very often; with these sums each is reckoned from one spell alone.
        self.ahead = dues_ahead(self.parts)
        self.length = sum([part[0] for part in self.parts])

    def spells(self):
        """The list of spells."""
        return [(turns, list(weights)) for turns, weights in self.parts]

    def turns(self):
        """How many turns it has."""
        return self.length

    def many(self):
        """How many claimants it has."""
        return len(self.parts[0][1])

    def share(self, turn, who):
        """The share of a claimant in a turn; NoTurns, then NoClaimant."""
        self.check_turns(turn, 1)
        self.check_claimant(who)
        at, within = self.place(turn)
        weights = self.parts[at][1]
        return made(weights[who], sum(weights))

    def due(self, turns, who):
        """The sum of a claimant's shares in so many turns; NoTurns, then NoClaimant."""
        self.check_turns(turns, 0)
        self.check_claimant(who)
        at, within = self.place(turns)
        weights = self.parts[at][1]
        return plus(self.ahead[at][who], made(within * weights[who], sum(weights)))

    def cut(self, turns):
        """The plan of its first so many turns; NoTurns."""
        self.check_turns(turns, 1)
        at, within = self.place(turns)
        spells = self.spells()
        return Plan(spells[:at] + [(within, spells[at][1])])

    def joined(self, other):
        """The plan with another one behind it; NoPlan, at counted through both."""
        return Plan(self.spells() + other.spells())

    def check_turns(self, turns, least):
        """NoTurns for what is no number from least to all turns."""
        if not is_whole_within(turns, least, self.length):
            raise NoTurns("no such turns in the plan")

    def check_claimant(self, who):
        """NoClaimant for what is no claimant of the plan."""
        if not self.has_claimant(who):
            raise NoClaimant("no such claimant in the plan")

    def has_claimant(self, who):
        """Whether a thing, of any kind, is a claimant of the plan."""
        return is_whole_within(who, 0, self.many() - 1)

    def place(self, turns):
        """The number of the spell in which so many turns end, and how many of them lie in it."""
        at = 0
        while turns > self.parts[at][0]:
            turns -= self.parts[at][0]
            at += 1
        return (at, turns)
