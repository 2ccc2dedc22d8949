"""Facts and rules as texts, and texts read again."""

from reason.errors import NoText
from reason.rules import has_predicate, is_group, is_rule
from reason.terms import is_fact, is_figure, is_name

MOST_FIGURES = 30


def words_text(words):
    return " ".join([str(word) for word in words])


def fact_text(fact):
    """A fact as a text."""
    return words_text((fact[0],) + fact[1])


def head_words(rule):
    terms = rule[1][:-1] + rule[1][-1] if is_group(rule) else rule[1]
    return (rule[0],) + terms


def literal_words(literal):
    if not has_predicate(literal):
        return literal
    words = (literal[1],) + literal[2]
    return words if literal[0] == "yes" else ("not",) + words


def rule_text(rule):
    """A rule as a text."""
    head = words_text(head_words(rule))
    body = ", ".join([words_text(literal_words(literal)) for literal in rule[2]])
    return f"{head} if {body}"


def is_numeral(word):
    """Whether a word is a whole number as it is written: at most thirty figures, no nought ahead, no -0."""
    figures = word[1:] if word.startswith("-") else word
    if not 1 <= len(figures) <= MOST_FIGURES or not all([is_figure(sign) for sign in figures]):
        return False
    return figures[0] != "0" or word == "0"


def read_terms(words):
    """Numerals as numbers, and all other words as they are: whether they are terms is seen in the whole."""
    return tuple([int(word) if is_numeral(word) else word for word in words])


def read_name(word):
    """The name that a word is; NoText where it is none."""
    if not is_name(word):
        raise NoText("this word is no name")
    return word


def read_constant(word):
    """The constant that a word is; NoText where it is none."""
    return int(word) if is_numeral(word) else read_name(word)


def read_fact(text):
    """The fact that a text is; NoText where it is none."""
    words = text.split(" ")
    fact = (words[0], read_terms(words[1:]))
    if not is_fact(fact):
        raise NoText("this text is no fact")
    return fact


def read_literal(text):
    words = text.split(" ")
    if words[0] in ("under", "unlike"):
        return (words[0],) + read_terms(words[1:])
    if words[0] != "not":
        return ("yes", words[0], read_terms(words[1:]))
    # A not with nothing behind it has an empty predicate, which is no name.
    return ("not", "".join(words[1:2]), read_terms(words[2:]))


def read_head_terms(words):
    if words[-1:] == ["count"]:
        return read_terms(words[:-1]) + (("count",),)
    if words[-2:-1] in (["sum"], ["least"]):
        return read_terms(words[:-2]) + (tuple(words[-2:]),)
    return read_terms(words)


def read_rule(text):
    """The rule that a text is, safe or not; NoText where it is none."""
    parts = text.partition(" if ")
    head = parts[0].split(" ")
    body = [read_literal(literal) for literal in parts[2].split(", ")]
    rule = (head[0], read_head_terms(head[1:]), tuple(body))
    if not is_rule(rule):
        raise NoText("this text is no rule")
    return rule
