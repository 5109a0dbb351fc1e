"""Points 1 to 4 and the interface, over the whole program."""

import importlib
import inspect
import random
import unittest
from copy import deepcopy
from fractions import Fraction

from dueturns import errors
from dueturns.desk import Desk
from dueturns.earliest import kept_by
from dueturns.errors import DueError, NoBook, NoPlan, NoRow
from dueturns.foresight import Foresight
from dueturns.goingon import each_next, fairest_on, going_on, shows_stuck
from dueturns.keeping import Credits
from dueturns.least import fairest
from dueturns.numbering import how_many, how_many_begin, next_row, number_of, row_at
from dueturns.papers import keeps, shows_none
from dueturns.plans import Plan
from dueturns.ranges import lag_keeps
from dueturns.rows import lag, worst
from dueturns.texts import read_bound
from tests.helper import (
    Refusals, all_papers, all_rows, lag_fits, lags, long_plans, random_spells, row_fits, small_spells,
)

FUNCTIONS = {
    "fractions": ["made(top, bottom)", "plus(one, other)", "minus(one, other)", "times(one, other)", "over(one, other)",
                  "less(one, other)", "floor_of(one)", "ceiling_of(one)"],
    "rows": ["counts(plan, row, turns)", "lag(plan, row, turns, who)", "worst(plan, row)"],
    "ranges": ["lag_keeps(bound, lag)", "range_of(plan, bound, turns, who)", "window(plan, bound, who, k)"],
    "papers": ["keeps(plan, bound, row)", "shows_none(plan, bound, thing)"],
    "earliest": ["kept_by(plan, bound)"],
    "least": ["fairest(plan)"],
    "numbering": ["how_many(plan, bound)", "how_many_begin(plan, bound, row)", "number_of(plan, bound, row)",
                  "row_at(plan, bound, number)", "next_row(plan, bound, row)"],
    "runnings": ["choice_at(running, turn)", "count_at(running, who, turns)", "turn_of(running, who, times)",
                 "least_of(running)", "first_apart(one, other)"],
    "forever": ["lags_of(weights, running)", "broken_at(weights, running, bound)", "dealt_for_ever(weights, bound)"],
    "sentences": ["is_sentence(thing)", "holds(sentence, past)", "reach_of(sentence)"],
    "books": ["chosen(book, past)", "rule_by(book, past)"],
    "stands": ["stands_of(book)", "stand_of(book, past)", "dealt(book, past)", "idle_rules(book)"],
    "promises": ["broken_in(running, promise)", "broken_by(book, promise)"],
    "waits": ["waits_of(book, who)", "wait_behind(book, who, past)", "waits_hold(book, who, thing)", "laps_of(book)"],
    "alikes": ["parts_at(one, other)", "rows_part_at(one, other, past)"],
    "goingon": ["begun_range(plan, bound, row, turns, who)", "going_on(plan, bound, row)",
                "shows_stuck(plan, bound, row, thing)", "each_next(plan, bound, row)", "fairest_on(plan, row)"],
    "texts": ["shown_plan(plan)", "shown_row(row)", "shown_bound(bound)", "shown_fraction(one)", "shown_paper(paper)",
              "read_plan(text)", "read_row(text)", "read_bound(text)", "read_fraction(text)", "read_paper(text)"],
}
METHODS = {
    ("plans", "Plan(spells)"): ["spells()", "turns()", "many()", "share(turn, who)", "due(turns, who)", "cut(turns)",
                                "joined(other)"],
    ("keeping", "Credits(weights)"): ["step()", "change(weights)", "back()", "owing()", "weights()", "told()"],
    ("foresight", "Foresight(plan)"): ["step()", "back()", "told()", "lags()", "left()"],
    ("desk", "Desk()"): ["say(row)"],
}

BOUNDS = [read_bound(text) for text in ("0", "1/3", "<1/2", "1/2", "2/3", "<3/4", "<1", "5/3")]


def values():
    """For each name of an argument a thing to hand in, made anew."""
    return {
        "plan": Plan([(3, [1, 2]), (4, [1, 1])]), "bound": ((1, 1), False), "row": [1, 0, 1, 0, 1, 0, 1], "turns": 7,
        "turn": 3, "who": 1, "k": 2, "number": 1, "times": 2, "top": 6, "bottom": -4, "lag": (-1, 2),
        "running": ([0, 1], [1, 0, 1, 0]), "weights": [3, 1], "sentence": ("or", (("went", 0, 1), ("more", 1, 0, 2))),
        "past": [0, 1, 1], "book": (2, [(("went", 1, 2), 0), (("or", ()), 1)]), "promise": (("went", 0, 1), (1,)),
        "thing": ("under", 0, 4), "paper": ("over", 2, 5), "text": "ab",
    }


def arguments(module, name, names):
    """What is handed to a function, by the names of its arguments."""
    told = values()
    told["one"], told["other"] = (3, 4), (1, 6)
    if module == "runnings":
        told["one"], told["other"] = ([0], [1, 0]), ([], [0, 1, 0])
    if module == "alikes":
        told["one"], told["other"] = told["book"], (2, [(("went", 0, 2), 0)])
    if name in ("each_next", "fairest_on", "begun_range"):
        told["row"] = [1, 0]
    if name == "waits_hold":
        told["thing"] = [((), 1), ((0,), 2), ((1,), 1)]
    texts = {"read_plan": "3x1,2; 1x0,1", "read_bound": "<1/2", "read_fraction": "-1/2", "read_paper": "over 1 2"}
    told["text"] = texts.get(name, "ab")
    return [told[one] for one in names]


def plain(thing):
    """A thing with plans as their spells."""
    if isinstance(thing, Plan):
        return ["plan", deepcopy(thing.spells())]
    if isinstance(thing, (list, tuple)):
        return [type(thing).__name__] + [plain(one) for one in thing]
    return thing


def spoil(thing):
    """All lists in a thing are changed, at any depth."""
    if isinstance(thing, (list, tuple)):
        for one in thing:
            spoil(one)
    if isinstance(thing, Plan):
        spoil(thing.spells())
    if isinstance(thing, list):
        thing.reverse()
        thing.append(99)


def parted(text):
    """The name and the arguments of a line of the interface."""
    name, rest = text[:-1].split("(")
    return name, [one for one in rest.split(", ") if one]


def all_calls():
    """Each function of the interface with its module and the names of its arguments."""
    for module, lines in FUNCTIONS.items():
        for line in lines:
            name, names = parted(line)
            yield module, name, names, getattr(importlib.import_module("dueturns." + module), name)


class Interface(unittest.TestCase):
    def test_functions(self):
        for module, name, names, call in all_calls():
            self.assertEqual(list(inspect.signature(call).parameters), names, name)
            self.assertEqual(call.__module__, "dueturns." + module)

    def test_methods_stand_in_the_class_itself(self):
        for (module, line), methods in METHODS.items():
            name, names = parted(line)
            made = getattr(importlib.import_module("dueturns." + module), name)
            self.assertEqual(list(inspect.signature(made).parameters), names)
            for method in methods:
                word, words = parted(method)
                self.assertEqual(list(inspect.signature(vars(made)[word]).parameters)[1:], words, method)

    def test_refusals(self):
        found = [one for one in vars(errors).values() if inspect.isclass(one) and issubclass(one, DueError)]
        self.assertEqual(DueError.__bases__, (ValueError,))
        names = "DueError NoPlan NoRow NoBook NoFraction NoTurns NoClaimant NoBound NoNumber NoStep NoRunning NoSentence"
        self.assertEqual({one.__name__ for one in found}, set(names.split(" ") + ["TooMany", "NoText", "NoDeed"]))
        for one in found:
            if one is not DueError:
                self.assertEqual(one.__bases__, (DueError,))
        for one in (NoPlan, NoRow, NoBook):
            self.assertEqual(one(7).at, 7)


class Owned(unittest.TestCase):
    def test_nothing_handed_in_is_changed_and_it_may_be_changed_later(self):
        for module, name, names, call in all_calls():
            given = arguments(module, name, names)
            kept = plain(given)
            told = call(*given)
            self.assertEqual(plain(given), kept, name)
            answer = plain(told)
            spoil(given)
            self.assertEqual(plain(told), answer, name)

    def test_the_same_question_is_answered_alike_whatever_is_done_to_what_was_told(self):
        for module, name, names, call in all_calls():
            given = arguments(module, name, names)
            first = call(*given)
            kept = plain(first)
            spoil(first)
            again = call(*given)
            self.assertEqual(plain(again), kept, name)
            self.assertEqual(plain(given), plain(arguments(module, name, names)), name)
            other = call(*arguments(module, name, names))
            self.assertEqual(plain(other), kept, name)

    def test_plans_do_not_hang_on_their_spells(self):
        spells = [(3, [1, 2]), (4, [1, 1])]
        plan = Plan(spells)
        answers = (fairest(plan), plan.due(7, 0), plan.cut(4).spells())
        ahead = Foresight(plan)
        joined = plan.joined(plan)
        spells[0][1][0] = 1000
        spells.append((1, [1]))
        plan.spells()[0][1].clear()
        joined.spells()[3][1].append(5)
        self.assertEqual((fairest(plan), plan.due(7, 0), plan.cut(4).spells()), answers)
        self.assertEqual(joined.spells(), [(3, [1, 2]), (4, [1, 1])] * 2)
        self.assertEqual(ahead.left(), 7)

    def test_keepers_do_not_hang_on_their_weights(self):
        weights = [1, 2]
        keeper = Credits(weights)
        weights[0] = 0
        other = [5, 1]
        keeper.step()
        keeper.change(other)
        other.clear()
        for told in (keeper.owing(), keeper.weights(), keeper.told()):
            told.clear()
        self.assertEqual((keeper.owing(), keeper.weights(), keeper.told()), ([(1, 3), (-1, 3)], [5, 1], [1]))
        keeper.back()
        self.assertEqual(keeper.weights(), [1, 2])
        ahead = Foresight(Plan([(2, [1, 1])]))
        ahead.step()
        kept = (ahead.told(), ahead.lags())
        ahead.told().clear()
        ahead.lags().clear()
        self.assertEqual((ahead.told(), ahead.lags()), kept)


class Promise(unittest.TestCase, Refusals):
    def test_a_row_or_a_paper_just_one_of_both(self):
        chance = random.Random(4)
        for spells in small_spells(chance, 25):
            plan, rows = Plan(spells), all_rows(spells)
            papers = all_papers(plan.turns())
            for bound in BOUNDS:
                kept = [row for row in rows if row_fits(spells, bound, row)]
                word, told = kept_by(plan, bound)
                right = [paper for paper in papers if shows_none(plan, bound, paper)]
                self.assertEqual((word == "row", right == []), (kept != [], kept != []))
                self.assertIn(told, kept if word == "row" else right)
                if bound[0][0] <= bound[0][1]:
                    self.assertEqual(how_many(plan, bound), len(kept))
                    self.assertEqual([row_at(plan, bound, number) for number in range(len(kept))], kept)

    def least_worst_stands(self, plan):
        """The least worst has a row and a paper, and is not above what the promise says."""
        most, row, paper = fairest(plan)
        self.assertEqual(worst(plan, row)[0], most)
        self.assertEqual(len(row), plan.turns())
        self.assertIs(keeps(plan, (most, False), row), True)
        self.assertIs(shows_none(plan, (most, True), paper), True)
        many = plan.many()
        limit = Fraction(2 * many - 3, 2 * many - 2) if many > 1 else 0
        self.assertLessEqual(Fraction(*most), limit)
        return most

    def test_the_least_worst(self):
        chance = random.Random(40)
        for spells in small_spells(chance, 40) + long_plans(chance, 3):
            self.least_worst_stands(Plan(spells))

    def test_rows_and_numbers(self):
        chance = random.Random(41)
        for spells in [random_spells(chance, 3, 30) for number in range(4)] + long_plans(chance, 1)[:2]:
            plan = Plan(spells)
            bound = (fairest(plan)[0], False)
            many = how_many(plan, bound)
            self.assertGreater(many, 0)
            for number in (0, many // 2, many - 1):
                row = row_at(plan, bound, number)
                self.assertIs(keeps(plan, bound, row), True)
                self.assertEqual(number_of(plan, bound, row), number)
                self.assertEqual(next_row(plan, bound, row), row_at(plan, bound, number + 1) if number + 1 < many else None)
            self.assertEqual(sum(how_many_begin(plan, bound, [who]) for who in range(plan.many())), many)
            self.assertEqual(how_many(plan, (bound[0], True)), 0)

    def test_whoever_steps(self):
        chance = random.Random(42)
        for spells in small_spells(chance, 20) + long_plans(chance, 2):
            plan = Plan(spells)
            ahead, keeper = Foresight(plan), Credits(spells[0][1])
            turn = 0
            for turns, weights in spells:
                keeper.change(weights)
                for step in range(turns):
                    keeper.step()
                    ahead.step()
                    turn += 1
                    self.assertTrue(all(lag_keeps(((1, 1), True), one) for one in ahead.lags()))
                    self.assertEqual(ahead.lags(), [lag(plan, ahead.told(), turn, who) for who in range(plan.many())])
                    # The credits are the lags of the row that the keeper made, and nobody is ahead by a whole turn.
                    owing = [Fraction(*one) for one in keeper.owing()]
                    self.assertGreater(min(owing), -1)
                    self.assertEqual(sum(owing), 0)
            row = keeper.told()
            self.assertEqual(owing, lags(spells, row)[-1])
            self.assertIs(keeps(plan, ((1, 1), True), ahead.told()), True)

    def test_from_any_beginning(self):
        chance = random.Random(43)
        for spells in small_spells(chance, 20):
            plan, rows = Plan(spells), all_rows(spells)
            begun = chance.choice(rows)[:chance.randrange(plan.turns())]
            for bound in BOUNDS:
                kept = []
                for row in rows:
                    later = [one for line in lags(spells, row)[len(begun) + 1:] for one in line]
                    if row[:len(begun)] == begun and all(lag_fits(bound, one) for one in later):
                        kept.append(row)
                word, told = going_on(plan, bound, begun)
                self.assertEqual(word, "row" if kept else "paper")
                self.assertTrue(told in kept if kept else shows_stuck(plan, bound, begun, told))
                for who, (word, told) in enumerate(each_next(plan, bound, begun)):
                    may = [row for row in kept if row[len(begun)] == who]
                    self.assertIs(word == "row", may != [])
                    if word == "row":
                        self.assertIn(told, may)
                    if word == "paper":
                        self.assertIs(shows_stuck(plan, bound, begun + [who], told), True)
            most, row, paper = fairest_on(plan, begun)
            self.assertIs(going_on(plan, (most, False), begun)[0] == "row", True)
            self.assertIs(shows_stuck(plan, (most, True), begun, paper), True)

    def test_a_desk_says_the_same(self):
        chance = random.Random(44)
        for spells in small_spells(chance, 10):
            plan, desk = Plan(spells), Desk()
            text = "; ".join(f"{turns}x{','.join(map(str, weights))}" for turns, weights in spells)
            self.assertEqual(desk.say("plan " + text), "ok")
            most = self.least_worst_stands(plan)
            self.assertEqual(Fraction(desk.say("fair")), Fraction(*most))
            answer = desk.say("on").split(" ")
            self.assertEqual(Fraction(answer[0]), Fraction(*most))
            self.assertEqual(desk.say("keeps " + answer[0]), "yes")
            self.assertEqual(desk.say("keeps <" + answer[0]), "no")
