"""Points 2, 3 and 91: the desk."""

import random
import unittest

from dueturns.desk import Desk
from dueturns.earliest import kept_by
from dueturns.errors import (
    DueError, NoClaimant, NoDeed, NoNumber, NoPlan, NoRow, NoStep, NoText, NoTurns, TooMany,
)
from dueturns.goingon import each_next, fairest_on
from dueturns.keeping import Credits
from dueturns.least import fairest
from dueturns.numbering import how_many, number_of, row_at
from dueturns.papers import keeps, shows_none
from dueturns.plans import Plan
from dueturns.rows import lag, worst
from dueturns.texts import (
    read_bound, read_fraction, read_paper, read_row, shown_bound, shown_fraction, shown_plan, shown_row,
)
from tests.helper import Refusals, anything, random_spells

PLAN = "plan 3x1,2; 4x1,1"
PLAN_ROWS = (
    "due 1 a", "row -", "lags", "worst", "keeps 1", "fair", "show 1", "many 1", "take 1 0", "place 1", "next 1", "go a", "on",
)
KEEPER_ROWS = ("change 1,1", "step", "back", "owed")
WRONG_NUMBERS = (
    "", "-", "-1", "+1", "01", "00", "1_0", "1.0", "1/2", "a", "x", "1" * 10, "0" * 10, "9" * 60, "\u0661", "1\n", "\t1",
)
WRONG_BOUNDS = (
    "", "-", "<", "<<1", "-1", "<-1", "-0", "2/4", "1/1", "1/0", "01", "+1", "1/02", "1" * 61, "a", "0.5", ">1", "301",
    "<601/2", "1\n",
)
WRONG_LETTERS = ("", "-", "g", "z", "A", "0", "ab", "aa", "a-", "\u0430", "a\n")
WRONG_ROWS = ("", "--", "-a", "a-", "g", "abg", "A", "0", "a,b", "ab\n")
WRONG_WEIGHTS = (
    "", ",", "1,", ",1", "1,,1", "01", "1,01", "+1", "-1", "1,-1", "1/2", "a", "1;1", "1,a", "1" * 61, "1," + "1" * 61,
    "1_0", "\u0661", "1\n",
)


def told(desk, *rows):
    """The answers of a desk to rows of text."""
    return [desk.say(row) for row in rows]


def state(desk):
    """What a desk keeps, as far as it can be asked."""
    answers = []
    for row in ("lags", "worst", "fair", "due 1 a", "owed"):
        try:
            answers.append(desk.say(row))
        except DueError as error:
            answers.append(type(error))
    return answers


def ready():
    """A desk with a plan, a row and a keeper."""
    desk = Desk()
    told(desk, PLAN, "row bab", "credits 1,2", "step")
    return desk


class Answers(unittest.TestCase):
    def test_plans_dues_and_rows(self):
        desk = Desk()
        self.assertEqual(desk.say(PLAN), "ok")
        self.assertEqual(told(desk, "due 0 a", "due 1 a", "due 3 b", "due 4 a", "due 7 b"), ["0", "1/3", "2", "3/2", "4"])
        self.assertEqual(told(desk, "lags", "worst"), ["0 0", "0 0 a"])
        self.assertEqual(told(desk, "row b", "lags", "worst"), ["ok", "1/3 -1/3", "1/3 1 a"])
        self.assertEqual(told(desk, "row aba", "lags", "worst"), ["ok", "-1 1", "1 3 a"])
        self.assertEqual(told(desk, "row -", "lags"), ["ok", "0 0"])

    def test_bounds(self):
        desk = Desk()
        told(desk, PLAN, "row bab")
        answers = told(desk, "keeps 1/2", "keeps 1/3", "keeps <1/3", "keeps 0", "keeps <300")
        self.assertEqual(answers, ["yes", "yes", "no", "no", "yes"])
        self.assertEqual(told(desk, "fair", "show 1/2", "show <1/2"), ["1/2", "row bababab", "under 0 4"])
        self.assertEqual(told(desk, "many 1/2", "many <1/2", "many 0"), ["4", "0", "0"])
        self.assertEqual(told(desk, "take 1/2 1", "place 1/2", "lags"), ["bababba", "1", "0 0"])
        self.assertEqual(told(desk, "take 1/2 0", "place 1/2", "take 1/2 3", "place 1/2"), ["bababab", "0", "babbaba", "3"])

    def test_going_on(self):
        desk = Desk()
        told(desk, "plan 4x1,1,1")
        self.assertEqual(told(desk, "next 2/3", "next 1/3", "next 300"), ["abc", "none", "abc"])
        self.assertEqual(told(desk, "go a", "next 2/3", "go c", "next 2/3", "next <2/3"), ["ok", "bc", "ok", "b", "none"])
        self.assertEqual(told(desk, "lags", "go b", "lags"), ["-1/3 2/3 -1/3", "ok", "0 0 0"])
        answer = desk.say("on").split(" ")
        self.assertEqual(answer[0], "2/3")
        self.assertEqual(answer[1][:3], "acb")
        self.assertEqual(len(answer[1]), 4)
        self.assertEqual(desk.say("keeps 2/3"), "yes")

    def test_on_keeps_the_row(self):
        desk = Desk()
        told(desk, PLAN, "row aa")
        most, row = desk.say("on").split(" ")
        self.assertEqual((most, row[:2], len(row)), ("1", "aa", 7))
        plan = Plan([(3, [1, 2]), (4, [1, 1])])
        lags = [shown_fraction(lag(plan, read_row(row), 7, who)) for who in (0, 1)]
        self.assertEqual(desk.say("lags"), " ".join(lags))

    def test_the_keeper(self):
        desk = Desk()
        self.assertEqual(told(desk, "credits 1,2", "owed", "step", "owed"), ["ok", "0 0", "b", "1/3 -1/3"])
        self.assertEqual(told(desk, "change 3,1", "owed", "step", "owed"), ["ok", "1/3 -1/3", "a", "1/12 -1/12"])
        self.assertEqual(told(desk, "back", "back", "back", "owed"), ["step", "change", "step", "0 0"])
        self.assertEqual(told(desk, "credits 1", "step", "owed"), ["ok", "a", "0"])
        self.assertEqual(told(desk, "credits 0,0,0,0,0,1000", "step", "owed"), ["ok", "f", "0 0 0 0 0 0"])

    def test_held_against_the_stages(self):
        chance = random.Random(910)
        bounds = [read_bound(text) for text in ("0", "<1/2", "2/3", "3/4", "<1", "1", "5/2")]
        words = set()
        for number in range(40):
            many = chance.randint(1, 6)
            plan = Plan(random_spells(chance, many, chance.randint(1, 9)))
            desk = Desk()
            self.assertEqual(desk.say("plan " + shown_plan(plan)), "ok")
            row = [chance.randrange(many) for turn in range(chance.randint(0, plan.turns()))]
            self.assertEqual(desk.say("row " + shown_row(row)), "ok")
            lags = [lag(plan, row, len(row), who) for who in range(many)]
            self.assertEqual([read_fraction(text) for text in desk.say("lags").split(" ")], lags)
            most, turns, letter = desk.say("worst").split(" ")
            self.assertEqual((read_fraction(most), int(turns), read_row(letter)[0]), worst(plan, row))
            self.assertEqual(read_fraction(desk.say("fair")), fairest(plan)[0])
            for turns in range(plan.turns() + 1):
                for who in range(many):
                    self.assertEqual(read_fraction(desk.say(f"due {turns} {'abcdef'[who]}")), plan.due(turns, who))
            for bound in bounds:
                text = shown_bound(bound)
                self.assertEqual(desk.say("keeps " + text), "yes" if keeps(plan, bound, row) else "no")
                shown = desk.say("show " + text)
                if kept_by(plan, bound)[0] == "row":
                    self.assertEqual(shown[:4], "row ")
                    self.assertIs(keeps(plan, bound, read_row(shown[4:])), True)
                    self.assertEqual(len(shown[4:]), plan.turns())
                else:
                    self.assertIs(shows_none(plan, bound, read_paper(shown)), True)
                words.add(shown.split(" ")[0])
                if bound[0][0] <= bound[0][1]:
                    self.assertEqual(desk.say("many " + text), str(how_many(plan, bound)))
                if len(row) < plan.turns():
                    going = [who for who, one in enumerate(each_next(plan, bound, row)) if one[0] == "row"]
                    self.assertEqual(desk.say("next " + text), shown_row(going) if going else "none")
            if len(row) < plan.turns():
                most, text = desk.say("on").split(" ")
                self.assertEqual(read_fraction(most), fairest_on(plan, row)[0])
                self.assertEqual(read_row(text)[:len(row)], row)
                self.assertIs(keeps(plan, ((300, 1), False), read_row(text)), True)
        self.assertEqual(words, {"row", "over", "under"})

    def test_rows_of_numbers(self):
        chance = random.Random(911)
        for number in range(20):
            plan = Plan(random_spells(chance, chance.randint(1, 4), chance.randint(1, 8)))
            desk = Desk()
            desk.say("plan " + shown_plan(plan))
            for bound in (((1, 1), True), ((1, 1), False), ((3, 4), False)):
                text = shown_bound(bound)
                many = int(desk.say("many " + text))
                for place in sorted({0, many // 2, many - 1}):
                    if 0 <= place < many:
                        answer = desk.say(f"take {text} {place}")
                        self.assertEqual(read_row(answer), row_at(plan, bound, place))
                        self.assertEqual(desk.say("place " + text), str(place))
                        self.assertEqual(number_of(plan, bound, read_row(answer)), place)

    def test_a_keeper_beside_one(self):
        chance = random.Random(912)
        for number in range(30):
            many = chance.randint(1, 6)
            weights = [chance.randint(0, 1000) for who in range(many)]
            weights[0] += sum(weights) == 0
            desk, keeper = Desk(), Credits(weights)
            desk.say("credits " + ",".join(map(str, weights)))
            for deed in range(30):
                word = chance.choice(["step", "step", "change", "back"])
                if word == "change":
                    weights = [chance.randint(0, 9) for who in range(many - 1)] + [1]
                    keeper.change(weights)
                    self.assertEqual(desk.say("change " + ",".join(map(str, weights))), "ok")
                elif word == "step":
                    self.assertEqual(desk.say("step"), "abcdef"[keeper.step()])
                elif keeper.told():
                    self.assertEqual(desk.say("back"), keeper.back())
                self.assertEqual(desk.say("owed"), " ".join(map(shown_fraction, keeper.owing())))

    def test_long_numbers(self):
        desk = Desk()
        told(desk, "plan 60x1,1,1,1,1,1; 60x1,2,3,4,5,6; 60x1000,1,1,1,1,1; 60x0,0,1,1,1,1")
        answer = desk.say("take 9/10 999999999")
        self.assertEqual(len(answer), 240)
        self.assertEqual(desk.say("place 9/10"), "999999999")
        self.assertGreater(len(desk.say("many 9/10")), 20)
        self.assertEqual(read_bound("9/10"), ((9, 10), False))


class Keeping(unittest.TestCase, Refusals):
    def test_a_plan_begins_with_the_row_without_turns_and_leaves_the_keeper(self):
        desk = ready()
        owed = desk.say("owed")
        answers = told(desk, "plan 2x1,1,1", "lags", "owed", "go c", "lags")
        self.assertEqual(answers, ["ok", "0 0 0", owed, "ok", "1/3 1/3 -2/3"])
        self.assertEqual(told(desk, "plan 2x1,1,1", "lags"), ["ok", "0 0 0"])
        self.assertEqual(told(desk, "step", "back"), ["a", "step"])

    def test_a_keeper_leaves_the_plan_and_the_row(self):
        desk = ready()
        kept = told(desk, "lags", "worst", "fair")
        answers = told(desk, "credits 5", "step", "step", "back", "credits 1,1", "owed")
        self.assertEqual(answers, ["ok", "a", "a", "step", "ok", "0 0"])
        self.assertEqual(told(desk, "lags", "worst", "fair"), kept)
        self.refused(NoStep, desk.say, "back")

    def test_two_desks_do_not_touch_one_another(self):
        one, other = Desk(), Desk()
        told(one, PLAN, "row ba", "credits 1,2", "step")
        self.assertEqual(state(other), [NoDeed] * 5)
        told(other, "plan 5x1,1,1", "row c", "credits 1,1,1", "step")
        kept = state(other)
        self.assertEqual(told(one, "lags", "owed"), ["-1/3 1/3", "1/3 -1/3"])
        told(one, "go b", "on", "step", "change 1,1", "take 1 0", "plan 1x1", "credits 1", "go a")
        self.assertEqual(state(other), kept)

    def test_asking_changes_nothing(self):
        desk = ready()
        kept = state(desk)
        for row in ("due 3 a", "lags", "worst", "keeps 1", "fair", "show 1", "show 0", "many 1", "next 1", "owed"):
            self.assertEqual(desk.say(row), desk.say(row))
        self.assertEqual(state(desk), kept)


class NoDeeds(unittest.TestCase, Refusals):
    def refused_everywhere(self, row):
        """A row is refused with NoDeed by a new desk and by one that keeps all, which it leaves as it is."""
        self.refused(NoDeed, Desk().say, row)
        desk = ready()
        kept = state(desk)
        self.refused(NoDeed, desk.say, row)
        self.assertEqual(state(desk), kept)

    def test_of_anything(self):
        things = [thing for thing in anything() if type(thing) is not str]
        for thing in things + [0, b"lags", ["lags"], ("step",), b"plan 1x1", ["plan ", "1x1"]]:
            self.refused_everywhere(thing)

    def test_other_words(self):
        for row in (
            "", " ", "  ", "x", "Plan 1x1", "PLAN 1x1", "plan", "plans 1x1", "plan\t1x1", "plan\n1x1", " plan 1x1", "lag",
            "Lags", "LAGS", "lags\n", "\nlags", "lags\r", "\tlags", "lags.", "ok", "yes", "none", "dues 1 a", "rows ab",
            "keep 1", "Fair", "shows 1", "many\t1", "say lags", "help", "spells", "turns", "plan_", "__init__", "say", "told",
            "owing", "credit 1", "weights", "left", "1", "a", "-", "over 1 2", "lags;worst",
        ):
            self.refused_everywhere(row)

    def test_words_too_many_or_too_few_and_blanks(self):
        for row in PLAN_ROWS + KEEPER_ROWS + ("credits 1,1",):
            words = row.split(" ")
            for end in (" ", "  ", " 1", " a", " -", "\n", "\t", row):
                self.refused_everywhere(row + end)
            self.refused_everywhere(" " + row)
            self.refused_everywhere(row.upper())
            for number in range(len(words)):
                if number > 0:
                    self.refused_everywhere(" ".join(words[:number]))
                    self.refused_everywhere(" ".join(words[:number]) + " ")
                    self.refused_everywhere(" ".join(words[:number]) + "  " + " ".join(words[number:]))
                    self.refused_everywhere(" ".join(words[:number]) + "\t" + " ".join(words[number:]))
            self.refused_everywhere(" ".join(words[::-1]) if len(words) > 1 else words[0] + " " + words[0])
        self.refused_everywhere("due a 1")
        self.refused_everywhere("take 0 1/2")
        self.refused_everywhere("credits 1 1")
        self.refused_everywhere("credits 1, 1")

    def test_numbers_bounds_letters_rows_and_weights_not_written_so(self):
        for text in WRONG_NUMBERS:
            self.refused_everywhere(f"due {text} a")
            self.refused_everywhere(f"take 1 {text}")
        for text in WRONG_BOUNDS:
            for word in ("keeps", "show", "many", "place", "next"):
                self.refused_everywhere(f"{word} {text}")
            self.refused_everywhere(f"take {text} 0")
        for text in WRONG_LETTERS:
            self.refused_everywhere(f"due 1 {text}")
            self.refused_everywhere(f"go {text}")
        for text in WRONG_ROWS:
            self.refused_everywhere(f"row {text}")
        for text in WRONG_WEIGHTS:
            self.refused_everywhere(f"credits {text}")
            self.refused_everywhere(f"change {text}")

    def test_ahead_of_a_plan_or_a_keeper(self):
        desk = Desk()
        for row in PLAN_ROWS + KEEPER_ROWS:
            self.refused(NoDeed, desk.say, row)
        desk.say("credits 1,2")
        for row in PLAN_ROWS + ("due 999999999 f", "many 300", "take 300 999999999", "row ffffff", "go f"):
            self.refused(NoDeed, desk.say, row)
        self.assertEqual(told(desk, "step", "owed"), ["b", "1/3 -1/3"])
        desk = Desk()
        desk.say(PLAN)
        for row in KEEPER_ROWS + ("change 0", "change 1,1,1,1,1,1,1"):
            self.refused(NoDeed, desk.say, row)
        self.assertEqual(told(desk, "row bab", "lags"), ["ok", "0 0"])

    def test_a_refused_plan_or_keeper_is_none(self):
        desk = Desk()
        self.refused(NoPlan, desk.say, "plan 0x1")
        self.refused(NoText, desk.say, "plan 1x")
        self.refused(NoPlan, desk.say, "credits 0")
        for row in PLAN_ROWS + KEEPER_ROWS:
            self.refused(NoDeed, desk.say, row)


class Refused(unittest.TestCase, Refusals):
    def unchanged(self, desk, error, row, at=None):
        """A row is refused and changes nothing."""
        kept = state(desk)
        caught = self.refused(error, desk.say, row)
        if at is not None:
            self.assertEqual(caught.at, at, row)
        self.assertEqual(state(desk), kept)

    def test_plans(self):
        desk = ready()
        for text in ("", " ", " 1x1", "1x1 ", "1x", "1x1;1x1", "-", "1x01", "1x1;  1x1", "x", "1x1\n"):
            self.unchanged(desk, NoText, "plan " + text)
            self.unchanged(Desk(), NoText, "plan " + text)
        nine = "; ".join(["1x1"] * 9)
        for text, at in (("0x1", 0), ("1x0", 0), ("1x1; 1x1,1", 1), ("1x1,1,1,1,1,1,1", 0), (nine, 8), (f"{10 ** 59}x1", 0)):
            self.unchanged(desk, NoPlan, "plan " + text, at)
            self.unchanged(Desk(), NoPlan, "plan " + text, at)

    def test_dues(self):
        desk = ready()
        self.unchanged(desk, NoTurns, "due 8 a")
        self.unchanged(desk, NoTurns, "due 999999999 f")
        self.unchanged(desk, NoClaimant, "due 7 c")
        self.unchanged(desk, NoClaimant, "due 0 f")

    def test_rows(self):
        desk = ready()
        self.unchanged(desk, NoRow, "row c", 0)
        self.unchanged(desk, NoRow, "row abf", 2)
        self.unchanged(desk, NoRow, "row abababab", 7)
        self.unchanged(desk, NoRow, "row abababac", 7)
        self.unchanged(desk, NoRow, "row " + "a" * 5000, 7)

    def test_numbering(self):
        desk = ready()
        for word in ("many {}", "take {} 0", "take {} 999999999", "place {}"):
            for text in ("2", "<2", "300", "<300", "10/9"):
                self.unchanged(desk, TooMany, word.format(text))
        self.unchanged(desk, NoNumber, "take 1/2 4")
        self.unchanged(desk, NoNumber, "take <1/2 0")
        self.unchanged(desk, NoNumber, "take 1/2 999999999")
        self.unchanged(desk, NoRow, "place 1", 3)
        desk.say("row aaaaaaa")
        self.unchanged(desk, NoRow, "place 1/2", 1)
        self.unchanged(desk, NoRow, "place 1", 2)
        self.unchanged(desk, NoRow, "place <0", 0)

    def test_going_on(self):
        desk = ready()
        self.unchanged(desk, NoClaimant, "go c")
        self.unchanged(desk, NoClaimant, "go f")
        desk.say("row bababab")
        self.unchanged(desk, NoClaimant, "go c")
        self.unchanged(desk, NoTurns, "go a")
        self.unchanged(desk, NoTurns, "go b")
        self.unchanged(desk, NoTurns, "next 1")
        self.unchanged(desk, NoTurns, "next 0")
        self.unchanged(desk, NoTurns, "on")
        self.assertEqual(desk.say("keeps 1/2"), "yes")

    def test_keepers(self):
        desk = ready()
        for text in ("0", "0,0", "1001", "1,1001", "1,1,1,1,1,1,1", str(10 ** 59), "1," + str(10 ** 59)):
            self.unchanged(desk, NoPlan, "credits " + text, 0)
            self.unchanged(desk, NoPlan, "change " + text, 0)
        self.unchanged(desk, NoPlan, "change 1", 0)
        self.unchanged(desk, NoPlan, "change 1,1,1", 0)
        self.assertEqual(told(desk, "back"), ["step"])
        self.unchanged(desk, NoStep, "back")
        self.unchanged(desk, NoStep, "back")

    def test_what_is_made_good_is_taken(self):
        desk = Desk()
        self.refused(NoDeed, desk.say, "row ba")
        self.refused(NoPlan, desk.say, "plan 3x1,2; 0x1,1")
        self.assertEqual(desk.say(PLAN), "ok")
        self.refused(NoRow, desk.say, "row bc")
        self.assertEqual(told(desk, "row ba", "lags"), ["ok", "-1/3 1/3"])
