"""Plans, rows, fractions, bounds and papers, written and read."""

from dueturns.errors import NoText
from dueturns.fractions import made
from dueturns.plans import Plan
from dueturns.ranges import is_bound

FIGURES = "0123456789"
MOST_FIGURES = 60
LETTERS = "abcdef"


def shown_plan(plan):
    """A plan as a text."""
    return "; ".join([shown_spell(turns, weights) for turns, weights in plan.spells()])


def shown_spell(turns, weights):
    """A spell as a text."""
    told = ",".join([str(weight) for weight in weights])
    return f"{turns}x{told}"


def shown_row(row):
    """A row as a text."""
    if len(row) == 0:
        return "-"
    return "".join([LETTERS[who] for who in row])


def shown_fraction(one):
    """A fraction as a text."""
    top, bottom = one
    return str(top) if bottom == 1 else f"{top}/{bottom}"


def shown_bound(bound):
    """A bound as a text."""
    most, strict = bound
    return "<" + shown_fraction(most) if strict else shown_fraction(most)


def shown_paper(paper):
    """A paper as a text."""
    word, a, b = paper
    return f"{word} {a} {b}"


def check_text(text):
    """NoText for what is no text."""
    if not isinstance(text, str):
        raise NoText("no text")


def is_number(text, most):
    """Whether a text is a number of at most so many figures, without a nought ahead."""
    if not 1 <= len(text) <= most or not all([one in FIGURES for one in text]):
        return False
    return text == "0" or text[0] != "0"


def read_number(text, most=MOST_FIGURES):
    """The number that is written in at most so many figures; NoText."""
    if not is_number(text, most):
        raise NoText("no number")
    return int(text)


def read_weights(text):
    """The numbers that are written with commas between; NoText."""
    return [read_number(one) for one in text.split(",")]


def read_plan(text):
    """The plan that is written; NoText, then NoPlan."""
    check_text(text)
    return Plan([read_spell(part) for part in text.split("; ")])


def read_spell(text):
    """The spell that is written, be it one or not; NoText."""
    parts = text.split("x")
    if len(parts) != 2:
        raise NoText("no spell")
    return (read_number(parts[0]), read_weights(parts[1]))


def read_row(text):
    """The row that is written; NoText."""
    check_text(text)
    if text == "-":
        return []
    if text == "" or not all([one in LETTERS for one in text]):
        raise NoText("no row")
    return [LETTERS.index(one) for one in text]


def read_fraction(text):
    """The fraction that is written; NoText."""
    check_text(text)
    top, slash, bottom = text.removeprefix("-").partition("/")
    parts = (read_number(top), read_number(bottom) if slash == "/" else 1)
    if parts[1] == 0:
        raise NoText("a bottom of 0")
    told = made(-parts[0] if text.startswith("-") else parts[0], parts[1])
    # There is one way to write a fraction: no other terms, no bottom of 1, no sign ahead of nought.
    if shown_fraction(told) != text:
        raise NoText("not written as it is shown")
    return told


def read_bound(text):
    """The bound that is written; NoText."""
    check_text(text)
    bound = (read_fraction(text.removeprefix("<")), text.startswith("<"))
    if not is_bound(bound):
        raise NoText("no bound")
    return bound


def read_paper(text):
    """The paper that is written; NoText."""
    check_text(text)
    words = text.split(" ")
    if len(words) != 3 or words[0] not in ("over", "under"):
        raise NoText("no paper")
    return (words[0], read_number(words[1]), read_number(words[2]))
