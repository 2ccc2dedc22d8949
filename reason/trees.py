"""How many trees of reasons plain facts have, up to a bound."""

from reason.plain import plain_facts
from reason.webs import Web


def ending_facts(web):
    """The numbers of the facts whose trees have an end, each behind all that its instances use.

    Those that never come free lie beneath themselves, or have such a fact beneath.
    """
    above = [[] for fact in web.listed]
    held_by = []
    for number in range(len(web.listed)):
        beneath = web.used_beneath(number)
        held_by.append(len(beneath))
        for one in beneath:
            above[one].append(number)
    free = [number for number, count in enumerate(held_by) if count == 0]
    ending = []
    while free != []:
        number = free.pop()
        ending.append(number)
        for other in above[number]:
            held_by[other] = held_by[other] - 1
            if held_by[other] == 0:
                free.append(other)
    return ending


def choices_of(used, counts):
    """In how many ways a tree is chosen for each use of a fact."""
    choices = 1
    for one in used:
        choices = choices * counts[one]
    return choices


def trees_up_to(bound, start, uses, counts):
    """How many trees a fact has, or the bound; start is 1 for a told fact and else 0."""
    many = start
    for used in uses:
        if many >= bound:
            return bound
        many = many + choices_of(used, counts)
    return min(many, bound)


def many_of(rules, told, bound):
    """How many trees the plain facts of the meaning have, or the bound, a dict by facts; TooMany."""
    web = Web(rules, plain_facts(rules, told))
    given = {}
    for fact in told:
        given[fact] = 1
    counts = [bound for fact in web.listed]
    for number in ending_facts(web):
        counts[number] = trees_up_to(bound, given.get(web.listed[number], 0), web.uses[number], counts)
    return dict(zip(web.listed, counts))
