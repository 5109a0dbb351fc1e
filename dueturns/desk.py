"""A desk that keeps a plan, a row of it and a keeper, and answers rows of text."""

from dueturns.earliest import kept_by
from dueturns.errors import NoDeed, NoText
from dueturns.goingon import check_unended, each_next, fairest_on
from dueturns.keeping import Credits
from dueturns.least import fairest
from dueturns.numbering import how_many, number_of, row_at
from dueturns.papers import keeps
from dueturns.rows import all_lags, check_row, worst
from dueturns.texts import LETTERS, read_bound, read_number, read_plan, read_row, read_weights
from dueturns.texts import shown_fraction, shown_paper, shown_row

MOST_FIGURES_OF_NUMBER = 9


def shown_fractions(ones):
    """Fractions as a text, blanks between."""
    return " ".join([shown_fraction(one) for one in ones])


def say_due(desk, told):
    """A due of the plan."""
    turns, who = told
    return shown_fraction(desk.plan.due(turns, who))


def say_row(desk, told):
    """A row is kept."""
    check_row(desk.plan, told[0])
    desk.row = told[0]
    return "ok"


def say_lags(desk, told):
    """The lags behind all turns of the kept row."""
    return shown_fractions(all_lags(desk.plan, desk.row)[-1])


def say_worst(desk, told):
    """The worst of the kept row."""
    most, turns, who = worst(desk.plan, desk.row)
    return f"{shown_fraction(most)} {turns} {LETTERS[who]}"


def say_keeps(desk, told):
    """Whether the kept row keeps a bound."""
    return "yes" if keeps(desk.plan, told[0], desk.row) else "no"


def say_fair(desk, told):
    """The least worst of the plan."""
    return shown_fraction(fairest(desk.plan)[0])


def say_show(desk, told):
    """A row that keeps a bound, or a paper that none does."""
    word, found = kept_by(desk.plan, told[0])
    return f"row {shown_row(found)}" if word == "row" else shown_paper(found)


def say_many(desk, told):
    """How many rows keep a bound."""
    return str(how_many(desk.plan, told[0]))


def say_take(desk, told):
    """The row of a number is kept."""
    bound, number = told
    desk.row = row_at(desk.plan, bound, number)
    return shown_row(desk.row)


def say_place(desk, told):
    """The number of the kept row."""
    return str(number_of(desk.plan, told[0], desk.row))


def say_next(desk, told):
    """The letters of all that may go next."""
    answers = each_next(desk.plan, told[0], desk.row)
    going = [who for who, (word, found) in enumerate(answers) if word == "row"]
    return shown_row(going) if len(going) > 0 else "none"


def say_go(desk, told):
    """A claimant is put behind the kept row."""
    desk.plan.check_claimant(told[0])
    check_unended(desk.plan, desk.row)
    desk.row = desk.row + [told[0]]
    return "ok"


def say_on(desk, told):
    """A fairest going on of the kept row is kept."""
    most, row, paper = fairest_on(desk.plan, desk.row)
    desk.row = row
    return f"{shown_fraction(most)} {shown_row(row)}"


def say_credits(desk, told):
    """A new keeper is kept."""
    desk.keeper = Credits(told[0])
    return "ok"


def say_change(desk, told):
    """The keeper's weights are changed."""
    desk.keeper.change(told[0])
    return "ok"


def say_step(desk, told):
    """The keeper steps."""
    return LETTERS[desk.keeper.step()]


def say_back(desk, told):
    """The keeper's last deed is taken back."""
    return desk.keeper.back()


def say_owed(desk, told):
    """The keeper's credits."""
    return shown_fractions(desk.keeper.owing())


ACTIONS = {
    "due": say_due, "row": say_row, "lags": say_lags, "worst": say_worst, "keeps": say_keeps, "fair": say_fair,
    "show": say_show, "many": say_many, "take": say_take, "place": say_place, "next": say_next, "go": say_go,
    "on": say_on, "credits": say_credits, "change": say_change, "step": say_step, "back": say_back, "owed": say_owed,
}

# What stands behind each word: N a number, A a letter, B a bound, R a row, W weights.
KINDS = {
    "due": "NA", "row": "R", "lags": "", "worst": "", "keeps": "B", "fair": "", "show": "B", "many": "B", "take": "BN",
    "place": "B", "next": "B", "go": "A", "on": "", "credits": "W", "change": "W", "step": "", "back": "", "owed": "",
}

KEEPER_WORDS = ("change", "step", "back", "owed")


def read_letter(text):
    """The claimant of a letter; NoText."""
    row = read_row(text)
    if len(row) != 1:
        raise NoText("no letter")
    return row[0]


def read_as(kind, text):
    """What is written, by its kind; NoText."""
    if kind == "N":
        return read_number(text, MOST_FIGURES_OF_NUMBER)
    if kind == "A":
        return read_letter(text)
    if kind == "B":
        return read_bound(text)
    return read_row(text) if kind == "R" else read_weights(text)


def read_told(word, texts):
    """What stands behind a word, read; NoDeed."""
    kinds = KINDS.get(word)
    if kinds is None or len(kinds) != len(texts):
        raise NoDeed("no such words")
    try:
        return [read_as(kind, text) for kind, text in zip(kinds, texts)]
    except NoText:
        raise NoDeed("not written so") from None


class Desk:
    """Keeps a plan, a row of it and a credit keeper, none at first."""

    def __init__(self):
        self.plan = None
        self.row = []
        self.keeper = None

    def say(self, row):
        """The answer to a row of text; NoDeed, else what the stages refuse."""
        if not isinstance(row, str):
            raise NoDeed("no text")
        if row.startswith("plan "):
            self.plan = read_plan(row.removeprefix("plan "))
            self.row = []
            return "ok"
        words = row.split(" ")
        told = read_told(words[0], words[1:])
        self.check_ready(words[0])
        action = ACTIONS[words[0]]
        return action(self, told)

    def check_ready(self, word):
        """NoDeed for a word that needs a plan or a keeper ahead of one."""
        if word in KEEPER_WORDS and self.keeper is None:
            raise NoDeed("there is no keeper")
        if word != "credits" and word not in KEEPER_WORDS and self.plan is None:
            raise NoDeed("there is no plan")
