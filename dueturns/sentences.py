"""Sentences: what may be said of a past, the list of what was chosen before a turn."""

from dueturns.checks import is_whole_within
from dueturns.errors import NoRow, NoSentence
from dueturns.plans import MOST_CLAIMANTS
from dueturns.runnings import is_any_claimant

MOST_PAST = 120
MOST_BACK = 5
MOST_JOINED = 4
MOST_SENTENCES = 40


def is_sentence(thing):
    """Whether a thing, of any kind, is a sentence."""
    # What is handed in may be nested far deeper than calls may be, so what is within it waits in a list.
    waiting = [thing]
    many = 0
    while len(waiting) > 0:
        one = waiting.pop()
        many += 1
        if many > MOST_SENTENCES or not stands_alone(one):
            return False
        waiting.extend(within(one))
    return True


def stands_alone(thing):
    """Whether a thing is a sentence as far as that does not hang on the sentences within it."""
    if not isinstance(thing, tuple) or len(thing) == 0 or not isinstance(thing[0], str):
        return False
    if thing[0] == "not":
        return len(thing) == 2
    if thing[0] in ("and", "or"):
        return len(thing) == 2 and isinstance(thing[1], tuple) and len(thing[1]) <= MOST_JOINED
    return looks_back(thing)


def looks_back(thing):
    """Whether a tuple that begins with a text is a sentence that looks back itself."""
    if thing[0] == "went" and len(thing) == 3:
        return is_any_claimant(thing[1]) and is_back(thing[2])
    if thing[0] == "often" and len(thing) == 4:
        return is_any_claimant(thing[1]) and is_back(thing[2]) and is_whole_within(thing[3], 1, thing[2])
    if thing[0] == "more" and len(thing) == 4:
        return is_any_claimant(thing[1]) and is_any_claimant(thing[2]) and thing[1] != thing[2] and is_back(thing[3])
    return False


def is_back(thing):
    """Whether a thing, of any kind, tells how far a sentence may look back."""
    return is_whole_within(thing, 1, MOST_BACK)


def within(sentence):
    """The sentences that stand right within a sentence."""
    if sentence[0] == "not":
        return [sentence[1]]
    if sentence[0] in ("and", "or"):
        return list(sentence[1])
    return []


def all_within(sentence):
    """All sentences in a sentence, itself first."""
    told = [sentence]
    for one in within(sentence):
        told.extend(all_within(one))
    return told


def back_of(sentence):
    """How far a sentence itself looks back, 0 where it does not."""
    if sentence[0] in ("went", "often"):
        return sentence[2]
    return sentence[3] if sentence[0] == "more" else 0


def claimants_of(sentence):
    """The claimants that a sentence itself names."""
    if sentence[0] in ("went", "often"):
        return [sentence[1]]
    return [sentence[1], sentence[2]] if sentence[0] == "more" else []


def greatest_back(sentence):
    """The reach of a sentence that is not checked."""
    return max([back_of(one) for one in all_within(sentence)])


def greatest_claimant(sentence):
    """The greatest claimant that a sentence names, -1 where it names none."""
    return max([who for one in all_within(sentence) for who in claimants_of(one)], default=-1)


def check_sentence(thing):
    """NoSentence for what is no sentence."""
    if not is_sentence(thing):
        raise NoSentence("no sentence")


def check_past(past, many):
    """NoRow for what is no past of so many claimants."""
    if not isinstance(past, list) or len(past) > MOST_PAST:
        raise NoRow(-1)
    for place, who in enumerate(past):
        if not is_whole_within(who, 0, many - 1):
            raise NoRow(place)


def last_turns(past, turns):
    """The last so many turns of a past, or all where there are fewer."""
    return past[max(0, len(past) - turns):]


def holds(sentence, past):
    """Whether a sentence holds of a past; NoSentence, then NoRow."""
    check_sentence(sentence)
    check_past(past, MOST_CLAIMANTS)
    return is_so(sentence, past)


def reach_of(sentence):
    """The greatest number of turns that a sentence looks back, 0 where it does not; NoSentence."""
    check_sentence(sentence)
    return greatest_back(sentence)


def is_so(sentence, past):
    """Whether a sentence holds of a past, a list or a tuple; neither is checked."""
    word = sentence[0]
    if word == "not":
        return not is_so(sentence[1], past)
    if word == "and":
        return all([is_so(one, past) for one in sentence[1]])
    if word == "or":
        return any([is_so(one, past) for one in sentence[1]])
    last = last_turns(past, back_of(sentence))
    if word == "went":
        return len(last) == sentence[2] and last[0] == sentence[1]
    if word == "often":
        return last.count(sentence[1]) >= sentence[3]
    return last.count(sentence[1]) > last.count(sentence[2])
