"""Books: rules on who goes next by what came before."""

from dueturns.checks import is_tuple_of, is_whole_within
from dueturns.errors import NoBook
from dueturns.sentences import check_past, greatest_back, greatest_claimant, is_sentence, is_so, last_turns

MOST_MANY = 4
MOST_RULES = 8


def check_book(book):
    """NoBook for what is no book."""
    if not is_tuple_of(book, 2):
        raise NoBook(-1)
    many, rules = book
    if not is_whole_within(many, 1, MOST_MANY) or not isinstance(rules, list) or len(rules) > MOST_RULES:
        raise NoBook(-1)
    for number, rule in enumerate(rules):
        if not is_rule(rule, many):
            raise NoBook(number)


def is_rule(thing, many):
    """Whether a thing, of any kind, is a rule for so many claimants."""
    if not is_tuple_of(thing, 2):
        return False
    sentence, who = thing
    return is_whole_within(who, 0, many - 1) and is_sentence(sentence) and greatest_claimant(sentence) < many


def book_reach(book):
    """How many of the last turns a book looks at."""
    many, rules = book
    return max([many - 1] + [greatest_back(sentence) for sentence, who in rules])


def chosen(book, past):
    """The claimant that a book chooses behind a past; NoBook, then NoRow."""
    check_book(book)
    check_past(past, book[0])
    return choice_behind(book, book_reach(book), past)


def rule_by(book, past):
    """The number of the rule by which a book chooses behind a past, None where it is none; NoBook, then NoRow."""
    check_book(book)
    check_past(past, book[0])
    return rule_behind(book, past)


def choice_behind(book, reach, past):
    """The claimant that a book of this reach chooses behind a past, a list or a tuple; nothing is checked."""
    number = rule_behind(book, past)
    if number is None:
        return longest_ago(book[0], last_turns(past, reach))
    return book[1][number][1]


def rule_behind(book, past):
    """The number of the first rule whose sentence holds of a past, None where none does; neither is checked."""
    for number, (sentence, who) in enumerate(book[1]):
        if is_so(sentence, past):
            return number
    return None


def longest_ago(many, last):
    """The claimant without a choice in the last turns, or whose last one is longest ago; the least of several."""
    places = [max([place for place, who in enumerate(last) if who == one], default=-1) for one in range(many)]
    return places.index(min(places))
