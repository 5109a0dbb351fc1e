"""A keeper that knows the plan, so that nobody ever lags or leads by a whole turn."""

from dueturns.earliest import BELOW_ONE, kept_by
from dueturns.errors import NoStep, NoTurns
from dueturns.rows import lags_behind


class Foresight:
    """Steps through the turns of a plan by a row that was found ahead for all of them."""

    def __init__(self, plan):
        self.plan = plan
        self.way = kept_by(plan, BELOW_ONE)[1]
        self.gone = 0

    def step(self):
        """The claimant that is chosen at the next turn; NoTurns behind the last one."""
        if self.left() == 0:
            raise NoTurns("all turns of the plan are gone")
        self.gone += 1
        return self.way[self.gone - 1]

    def back(self):
        """The claimant whose choice, the last one, is taken back; NoStep where there is none."""
        if self.gone == 0:
            raise NoStep("there is no step that could be taken back")
        self.gone -= 1
        return self.way[self.gone]

    def told(self):
        """The row of all that were chosen and not taken back."""
        return self.way[:self.gone]

    def lags(self):
        """The lags of all claimants behind the turns that are gone."""
        chosen = [self.told().count(who) for who in range(self.plan.many())]
        return lags_behind(self.plan, chosen, self.gone)

    def left(self):
        """How many turns are left."""
        return len(self.way) - self.gone
