"""A keeper that steps by credits, whatever weights come."""

from dueturns.errors import NoPlan, NoStep
from dueturns.fractions import less, made, minus, plus
from dueturns.plans import check_weights


def greatest_of(fractions):
    """The place of the greatest fraction, the least place among like ones."""
    best = 0
    for at, one in enumerate(fractions):
        if less(fractions[best], one):
            best = at
    return best


class Credits:
    """Each claimant's credit grows by its share; who has the most goes next and pays a whole turn."""

    def __init__(self, weights):
        check_weights(weights)
        self.present = list(weights)
        self.owed = [(0, 1) for weight in weights]
        self.row = []
        # What each deed found: its word, the weights and the credits. These lists are never changed.
        self.deeds = []

    def step(self):
        """The claimant with the greatest credit is chosen and told."""
        whole = sum(self.present)
        grown = [plus(one, made(weight, whole)) for one, weight in zip(self.owed, self.present)]
        who = greatest_of(grown)
        grown[who] = minus(grown[who], (1, 1))
        self.note("step")
        self.owed = grown
        self.row.append(who)
        return who

    def change(self, weights):
        """From now on other weights stand, as many as before; NoPlan, its at 0."""
        check_weights(weights)
        if len(weights) != len(self.present):
            raise NoPlan(0)
        self.note("change")
        self.present = list(weights)

    def back(self):
        """The last deed is taken back and told, "step" or "change"; NoStep where there is none."""
        if len(self.deeds) == 0:
            raise NoStep("nothing was done that could be taken back")
        word, weights, owed = self.deeds.pop()
        self.present = weights
        self.owed = owed
        if word == "step":
            self.row.pop()
        return word

    def owing(self):
        """The credits of all claimants."""
        return list(self.owed)

    def weights(self):
        """The weights that stand now."""
        return list(self.present)

    def told(self):
        """The row of all that were chosen and not taken back."""
        return list(self.row)

    def note(self, word):
        """Keeps what a deed finds, so that it can be taken back."""
        self.deeds.append((word, self.present, self.owed))
