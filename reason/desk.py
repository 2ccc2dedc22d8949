"""The desk: rows of text, and what a keeper answers to them."""

from reason.costs import costs_of
from reason.errors import NoRow, Unlike
from reason.falls import falls_of, needed_of
from reason.keeper import Keeper
from reason.lacks import lacks_of
from reason.plain import refuse_unless_plain
from reason.questions import asked_of
from reason.rules import widths_of
from reason.sets import sets_of
from reason.texts import fact_text, is_numeral, read_constant, read_fact, read_name, read_rule, words_text
from reason.trees import many_of
from reason.why import why_of

MOST_NUMBER_FIGURES = 9


def read_number(word):
    """The whole number that a word of a row is; NoRow where it is none of one to nine figures."""
    if not is_numeral(word) or word.startswith("-") or len(word) > MOST_NUMBER_FIGURES:
        raise NoRow("a number of a row has one to nine figures")
    return int(word)


def read_place(word):
    """The constant that a place of a question is, or None for any; NoText."""
    return None if word == "?" else read_constant(word)


def fact_texts(facts):
    return [fact_text(fact) for fact in facts]


def difference_texts(difference):
    """The texts of what is gone, then of what has come."""
    return ["- " + text for text in fact_texts(difference[0])] + ["+ " + text for text in fact_texts(difference[1])]


def set_texts(sets):
    return ["none" if facts == () else ", ".join(fact_texts(facts)) for facts in sets]


def entry_text(entry):
    text = fact_text(entry[0])
    reason = entry[2]
    if reason[0] == "told":
        return f"{text} told"
    number = reason[1]
    if reason[0] == "group":
        return f"{text} by group {number}"
    return ", ".join([f"{text} by {number}"] + fact_texts(reason[2]))


def answer_rule(keeper, text):
    answer = keeper.rule_in(read_rule(text))
    return [str(answer[0])] + difference_texts(answer[1:])


def answer_drop(keeper, text):
    return difference_texts(keeper.rule_out(read_number(text)))


def answer_put(keeper, text):
    return difference_texts(keeper.put(read_fact(text)))


def answer_take(keeper, text):
    return difference_texts(keeper.take(read_fact(text)))


def answer_facts(keeper, text):
    if " " in text:
        raise NoRow("facts are asked of one predicate")
    predicate = read_name(text)
    return fact_texts([fact for fact in keeper.facts() if fact[0] == predicate])


def answer_why(keeper, text):
    entries = why_of(keeper.rules(), keeper.paper(), read_fact(text))
    return [entry_text(entry) for entry in entries]


def number_texts(keeper, fact, numbers):
    """The number of a plain fact, of a dict by the plain facts; Mixed, Missing."""
    refuse_unless_plain(keeper.rules(), numbers, fact)
    return [str(numbers[fact])]


def ones_by(things):
    ones = {}
    for thing in things:
        ones[thing] = 1
    return ones


def answer_cost(keeper, text):
    fact = read_fact(text)
    rules = keeper.rules()
    return number_texts(keeper, fact, costs_of(rules, ones_by(keeper.told()), ones_by(rules)))


def answer_many(keeper, text):
    words = text.partition(" ")
    bound = read_number(words[0])
    if bound == 0 or words[1] == "":
        raise NoRow("a bound from 1 on and a fact are wanted")
    fact = read_fact(words[2])
    return number_texts(keeper, fact, many_of(keeper.rules(), keeper.told(), bound))


def answer_sets(keeper, text):
    return set_texts(sets_of(keeper.rules(), keeper.told(), read_fact(text)))


def answer_falls(keeper, text):
    return set_texts(falls_of(keeper.rules(), keeper.told(), read_fact(text)))


def answer_needs(keeper, text):
    return fact_texts(needed_of(keeper.rules(), keeper.told(), read_fact(text)))


def answer_lack(keeper, text):
    lacks = lacks_of(keeper.rules(), keeper.facts(), read_fact(text))
    return [words_text((number,) + lack) for number, lack in lacks]


def answer_ask(keeper, text):
    words = text.split(" ")
    predicate = read_name(words[0])
    pattern = tuple([read_place(word) for word in words[1:]])
    rules = keeper.rules()
    told = keeper.told()
    if widths_of(rules, told).get(predicate, len(pattern)) != len(pattern):
        raise Unlike(f"{predicate} has another number of places")
    return fact_texts(asked_of(rules, told, (predicate, pattern))[0])


ANSWERS = {
    "rule": answer_rule, "drop": answer_drop, "put": answer_put, "take": answer_take, "facts": answer_facts,
    "why": answer_why, "cost": answer_cost, "many": answer_many, "sets": answer_sets, "falls": answer_falls,
    "needs": answer_needs, "lack": answer_lack, "ask": answer_ask,
}


class Desk:
    """Keeps a keeper, and answers rows of text."""

    def __init__(self):
        self.keeper = Keeper()

    def say(self, row):
        """The answer to a row, a list of texts; NoRow, NoText, or what the stages beneath refuse."""
        if not isinstance(row, str):
            raise NoRow("a row is a text")
        words = row.partition(" ")
        if words[0] not in ANSWERS or words[1] == "":
            raise NoRow("a row begins with one of the desk's words, a blank, and what it is asked of")
        return ANSWERS[words[0]](self.keeper, words[2])
