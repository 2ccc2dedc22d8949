"""What several tests of the project need: literals, things that lie, books made by a told chance, and the document's
words on bindings, meanings and papers worked the slow and plain way, to hold the program against."""

import functools
import itertools
import math
import random

from reason.errors import Missing, ReasonError, Ring, Twice, Unsafe
from reason.layers import layers_of
from reason.rules import is_safe, widths_of
from reason.terms import constant_before, fact_key, in_order

WIDTHS = {"a": 1, "b": 2, "c": 2, "d": 1, "e": 0, "f": 3}
CONSTANTS = (-1, 0, 2, "k", "m")
VARIABLES = ("X", "Y", "Z")


class Agrees:
    """Says yes to every comparison, so that a careless look takes it for anything."""

    __hash__ = None

    def __eq__(self, other):
        return True

    def __ne__(self, other):
        return False

    def __len__(self):
        return 1


def yes(predicate, *terms):
    return ("yes", predicate, terms)


def no(predicate, *terms):
    return ("not", predicate, terms)


def numbered(*rules):
    return dict(enumerate(rules, 1))


PATHS = (("path", ("X", "Y"), (yes("edge", "X", "Y"),)),
         ("path", ("X", "Z"), (yes("edge", "X", "Y"), yes("path", "Y", "Z"))))


def edge(one, other):
    return ("edge", (one, other))


def path(one, other):
    return ("path", (one, other))


def some_facts(chance, most, predicates="abcdef"):
    facts = {}
    for turn in range(chance.randint(0, most)):
        predicate = chance.choice(predicates)
        facts[predicate, tuple(chance.choice(CONSTANTS) for place in range(WIDTHS[predicate]))] = True
    return list(facts)


def some_terms(chance, count, variables):
    pool = list(variables) * 2 + [chance.choice(CONSTANTS)]
    return tuple(chance.choice(pool) for place in range(count))


def some_body(chance, predicates="abcdef", longest=5):
    """A body of a safe rule."""
    body, bound = [], []
    for turn in range(chance.randint(1, longest)):
        kind = chance.choice(("yes", "yes", "yes", "not", "under", "unlike"))
        if kind == "yes" and sum(literal[0] == "yes" for literal in body) == 3:
            continue
        if kind in ("yes", "not"):
            predicate = chance.choice(predicates)
            pool = VARIABLES if kind == "yes" else bound
            body.append((kind, predicate, some_terms(chance, WIDTHS[predicate], pool)))
        else:
            body.append((kind,) + some_terms(chance, 2, bound))
        if kind == "yes":
            bound += [term for term in body[-1][2] if term in VARIABLES and term not in bound]
    return tuple(body) or (("unlike", 0, 2),)


def bound_in(body):
    return sorted({term for literal in body if literal[0] == "yes" for term in literal[2] if term in VARIABLES})


def some_rule(chance, longest=5):
    """A safe rule, a group rule now and then."""
    body = some_body(chance, longest=longest)
    bound = bound_in(body)
    predicate = chance.choice("abcdef")
    terms = some_terms(chance, WIDTHS[predicate], bound)
    if terms and chance.random() < 0.25:
        kinds = [("count",)] + [(kind, variable) for kind in ("sum", "least") for variable in bound]
        terms = terms[:-1] + (chance.choice(kinds),)
    return (predicate, terms, body)


def is_whole(thing):
    return isinstance(thing, int) and not isinstance(thing, bool)


def put(term, binding):
    return binding[term] if isinstance(term, str) and term[0].isupper() else term


def literal_stands(literal, binding, facts):
    if literal[0] in ("yes", "not"):
        fact = (literal[1], tuple(put(term, binding) for term in literal[2]))
        return (fact in facts) if literal[0] == "yes" else (fact not in facts)
    one, other = put(literal[1], binding), put(literal[2], binding)
    if literal[0] == "unlike":
        return one != other
    return is_whole(one) and is_whole(other) and one < other


def variables_of(body):
    terms = [term for literal in body for term in (literal[2] if literal[0] in ("yes", "not") else literal[1:])]
    return sorted({term for term in terms if isinstance(term, str) and term[0].isupper()})


def constants_in_order(facts):
    found = []
    for constant in {place for fact in facts for place in fact[1]}:
        spot = 0
        while spot < len(found) and constant_before(found[spot], constant):
            spot += 1
        found.insert(spot, constant)
    return found


def plain_bindings(body, facts):
    """Every binding of the body's variables is tried, in order; those by which it holds are told."""
    facts = set(facts)
    variables = variables_of(body)
    rows = itertools.product(constants_in_order(facts), repeat=len(variables))
    tried = [dict(zip(variables, row)) for row in rows]
    return [binding for binding in tried if all(literal_stands(literal, binding, facts) for literal in body)]


def plain_group_facts(rule, facts):
    predicate, terms, body = rule
    bindings = plain_bindings(body, facts)
    given = []
    for group in {tuple(put(term, binding) for term in terms[:-1]) for binding in bindings}:
        members = [binding for binding in bindings if tuple(put(term, binding) for term in terms[:-1]) == group]
        if terms[-1] == ("count",):
            given.append((predicate, group + (len(members),)))
            continue
        numbers = [member[terms[-1][1]] for member in members if is_whole(member[terms[-1][1]])]
        if numbers:
            given.append((predicate, group + ((sum if terms[-1][0] == "sum" else min)(numbers),)))
    return in_order(given)


def is_grouped(rule):
    return len(rule[1]) > 0 and isinstance(rule[1][-1], tuple)


def plain_meaning(rules, told, layers):
    facts = set()
    for layer in range(max([0, *layers.values()]) + 1):
        own = [rule for rule in rules.values() if layers[rule[0]] == layer]
        beneath = set(facts)
        facts |= {fact for fact in told if layers.get(fact[0], 0) == layer}
        for rule in own:
            if is_grouped(rule):
                facts |= set(plain_group_facts(rule, beneath))
        before = None
        while before != facts:
            before = set(facts)
            for head, terms, body in [rule for rule in own if not is_grouped(rule)]:
                for binding in plain_bindings(body, before):
                    facts.add((head, tuple(put(term, binding) for term in terms)))
    return in_order(list(facts))


def some_book(chance, most):
    """Rules that have layers, a dict by numbers; their bodies are short, so that they give something."""
    rules = {}
    for number in chance.sample(range(1, 30), chance.randint(1, most)):
        rules[number] = some_rule(chance, chance.randint(1, 3))
        try:
            layers_of(rules)
        except Ring:
            del rules[number]
    return rules


def lively_rule(chance):
    """A safe rule that often gives something: nearly all terms are variables, and few literals are no yes."""
    body = []
    for turn in range(chance.choice((1, 1, 2, 2, 3))):
        predicate = chance.choice("abcdef")
        body.append(yes(predicate, *[chance.choice(VARIABLES * 3 + (0,)) for place in range(WIDTHS[predicate])]))
    bound = bound_in(body) or [0]
    predicate = chance.choice("abcdef")
    if chance.random() < 0.3:
        guard = no(predicate, *chance.choices(bound, k=WIDTHS[predicate]))
        body.append(chance.choice((guard, ("unlike", chance.choice(bound), "k"), ("under", 0, chance.choice(bound)))))
    predicate = chance.choice("abcdef")
    terms = tuple(chance.choices(bound * 4 + ["k"], k=WIDTHS[predicate]))
    if terms and chance.random() < 0.1:
        terms = terms[:-1] + (("count",),)
    return (predicate, terms, tuple(body))


def lively_book(chance, most):
    """At most so many rules, that have layers, a dict by numbers, and told facts from which much follows."""
    rules = {}
    for number in chance.sample(range(1, 30), most):
        rules[number] = lively_rule(chance)
        try:
            layers_of(rules)
        except Ring:
            del rules[number]
    told = {}
    for turn in range(chance.randint(5, 25)):
        predicate = chance.choice("abcdef")
        told[predicate, tuple(chance.choices((0, 1, "k"), k=WIDTHS[predicate]))] = True
    return rules, list(told)


def books(seed, turns):
    """Turn about, a book of any rules with told facts and a lively one, by a chance of their own."""
    chance = random.Random(seed)
    for turn in range(turns):
        yield lively_book(chance, 8) if turn % 2 else (some_book(chance, 6), some_facts(chance, 25))


def used_in(body, binding):
    return tuple((literal[1], tuple(put(term, binding) for term in literal[2]))
                 for literal in body if literal[0] == "yes")


def plain_instances(rules, facts, fact):
    found = set()
    for number, (predicate, terms, body) in rules.items():
        if is_grouped(rules[number]):
            if fact in plain_group_facts(rules[number], facts):
                found.add((number, ()))
            continue
        for binding in plain_bindings(body, facts):
            if (predicate, tuple(put(term, binding) for term in terms)) == fact:
                found.add((number, used_in(body, binding)))
    return sorted(found, key=lambda instance: (instance[0], [fact_key(one) for one in instance[1]]))


def plain_takes(rules, told, paper):
    """Whether the checker must take a paper, by the document's words in their order."""
    layers = layers_of(rules)
    ranks = {fact: rank for fact, rank, reason in paper}
    facts = list(ranks)

    def is_right(fact, rank, reason):
        if reason[0] == "told":
            return fact in told
        if reason[1] not in rules or is_grouped(rules[reason[1]]) != (reason[0] == "group"):
            return False
        used = () if reason[0] == "group" else reason[2]
        own = [one for one in used if layers.get(one[0], 0) == layers.get(fact[0], 0)]
        return ((reason[1], used) in plain_instances(rules, facts, fact)
                and all(one in ranks and ranks[one] < rank for one in own))

    made = [head for rule in rules.values() for head in plain_made(rule, facts)]
    return (len(ranks) == len(paper) <= 400 and all(fact in ranks for fact in told)
            and all(is_right(*entry) for entry in paper) and all(fact in ranks for fact in made))


def plain_made(rule, facts):
    if is_grouped(rule):
        return plain_group_facts(rule, facts)
    return [(rule[0], tuple(put(term, binding) for term in rule[1])) for binding in plain_bindings(rule[2], facts)]


def plain_mixed(rules):
    """The mixed predicates, each looked at by all that stands beneath it."""
    mixed = []
    for predicate in {rule[0] for rule in rules.values()}:
        seen, waiting = set(), [predicate]
        while waiting:
            one = waiting.pop()
            if one not in seen:
                seen.add(one)
                waiting += [literal[1] for rule in rules.values() if rule[0] == one
                            for literal in rule[2] if literal[0] in ("yes", "not")]
        own = [rule for rule in rules.values() if rule[0] in seen]
        if any(is_grouped(rule) or any(literal[0] == "not" for literal in rule[2]) for rule in own):
            mixed.append(predicate)
    return sorted(mixed)


def plain_web(rules, told):
    """The plain facts of the meaning, and the instances of each."""
    mixed = plain_mixed(rules)
    facts = [fact for fact in plain_meaning(rules, told, layers_of(rules)) if fact[0] not in mixed]
    web = {fact: [] for fact in facts}
    for number, (predicate, terms, body) in rules.items():
        if predicate not in mixed:
            for binding in plain_bindings(body, facts):
                head = (predicate, tuple(put(term, binding) for term in terms))
                web[head].append((number, used_in(body, binding)))
    return web


def plain_costs(web, told_costs, prices):
    """By rounds, until nothing becomes cheaper."""
    costs = {fact: told_costs[fact] for fact in web if fact in told_costs}
    before = None
    while before != costs:
        before = dict(costs)
        for fact in web:
            for number, used in web[fact]:
                if all(one in costs for one in used):
                    cost = prices[number] + sum(costs[one] for one in used)
                    costs[fact] = min(cost, costs.get(fact, cost))
    return costs


def plain_many(web, told, bound):
    """The trees of no more than so many steps, for more and more steps, until there are no more up to the bound."""
    counts = dict.fromkeys(web, 0)
    before = None
    while before != counts:
        before = counts
        counts = {}
        for fact, instances in web.items():
            many = (fact in told) + sum(math.prod(before[one] for one in used) for number, used in instances)
            counts[fact] = min(many, bound)
    return counts


JOINED = {"bits": lambda one, other: one | other, "chain": max, "shares": math.lcm}
MET = {"bits": lambda one, other: one & other, "chain": min, "shares": math.gcd}


def plain_values(web, told_values, measure):
    """By rounds from nought on, as the document tells it."""
    kind, top = measure
    nought = 1 if kind == "shares" else 0
    values = dict.fromkeys(web, nought)
    before = None
    while before != values:
        before = values
        values = {}
        for fact, instances in web.items():
            value = told_values.get(fact, nought)
            for number, used in instances:
                value = JOINED[kind](value, functools.reduce(MET[kind], [before[one] for one in used], top))
            values[fact] = value
    return values


def some_values(chance, told, measure):
    kind, top = measure
    if kind == "shares":
        values = [number for number in range(1, 2000) if top % number == 0] + [top]
    else:
        values = [chance.randrange(top + 1) & (top if kind == "bits" else -1) for turn in range(5)] + [0, top]
    return {fact: chance.choice(values) for fact in told}


def plain_beneath(web, told, fact):
    """The told facts of the least list that has the fact and, with each, what its instances use."""
    found = {fact}
    before = None
    while before != found:
        before = set(found)
        for one in before:
            found |= {used for number, all_used in web[one] for used in all_used}
    return in_order([one for one in found if one in told])


def parts_in_order(facts):
    """All parts of the facts, in the order that the document tells of sets."""
    return [part for size in range(len(facts) + 1) for part in itertools.combinations(in_order(facts), size)]


def follows(web, given, fact):
    """Whether a fact follows from given facts by the instances of a web."""
    held = set(given)
    before = None
    while before != held:
        before = set(held)
        held |= {head for head, instances in web.items() if any(before.issuperset(used) for number, used in instances)}
    return fact in held


def least_parts(parts):
    """Those parts that have no other one of them within."""
    return [part for part in parts if not any(set(other) < set(part) for other in parts)]


def plain_sets(web, told, fact):
    return least_parts([part for part in parts_in_order(plain_beneath(web, told, fact)) if follows(web, part, fact)])


def plain_falls(web, told, fact):
    """The least sets without which the fact does not follow from all other plain told facts."""
    plain = [one for one in told if one in web]
    return least_parts([part for part in parts_in_order(plain_beneath(web, told, fact))
                        if not follows(web, [one for one in plain if one not in part], fact)])


def unified(terms, places):
    """The binding by which terms are places (None for any constant), or None where there is none."""
    binding = {}
    for term, place in zip(terms, places, strict=True):
        if place is not None:
            variable = isinstance(term, str) and term[0].isupper()
            if (binding.setdefault(term, place) if variable else term) != place:
                return None
    return binding


def bindings_with(start, body, facts):
    """The bindings of a body that have what they start from, whether it stands in the body or not."""
    free = [variable for variable in variables_of(body) if variable not in start]
    found = []
    for row in itertools.product(constants_in_order(facts), repeat=len(free)):
        binding = {**start, **dict(zip(free, row))}
        if all(literal_stands(literal, binding, facts) for literal in body):
            found.append(binding)
    return found


def plain_lack(rule, facts, fact):
    predicate, terms, body = rule
    grouped = is_grouped(rule)
    places = fact[1][:-1] if grouped else fact[1]
    start = unified(terms[:-1] if grouped else terms, places)
    if start is None:
        return ("head",)
    for number in range(len(body)):
        if not bindings_with(start, body[:number + 1], set(facts)):
            return ("literal", number)
    others = [given[1][-1] for given in plain_group_facts(rule, facts) if given[1][:-1] == places]
    return ("other", others[0]) if others else ("nothing",)


def plain_lacks(rules, facts, fact):
    return [(number, plain_lack(rules[number], facts, fact)) for number in sorted(rules)
            if rules[number][0] == fact[0] and len(rules[number][1]) == len(fact[1])]


def meets(fact, mark):
    return fact[0] == mark[0] and all(place in (None, own) for own, place in zip(fact[1], mark[1], strict=True))


def plain_asked(rules, told, question):
    """The marks and the made facts, a step taken for each rule and mark again and again until nothing comes."""
    layers = layers_of(rules)
    layer = layers.get(question[0], 0)
    lower = {fact for fact in plain_meaning(rules, told, layers) if layers.get(fact[0], 0) < layer}
    marks, made = {question}, set()
    before = None
    while before != (len(marks), len(made)):
        before = (len(marks), len(made))
        for mark in list(marks):
            own = [rule for rule in rules.values() if rule[0] == mark[0]]
            bases = [fact for fact in told if layers.get(fact[0], 0) == layer and fact[0] == mark[0]]
            bases += [fact for rule in own if is_grouped(rule) for fact in plain_group_facts(rule, lower)]
            made |= {fact for fact in bases if meets(fact, mark)}
            for predicate, terms, body in [rule for rule in own if not is_grouped(rule)]:
                start = unified(terms, mark[1])
                for number in range(len(body) + 1) if start is not None else ():
                    for binding in bindings_with(start, body[:number], made | lower):
                        if number == len(body):
                            made.add((predicate, tuple(put(term, binding) for term in terms)))
                        elif body[number][0] == "yes" and layers[body[number][1]] == layer:
                            pattern = tuple(binding.get(term) if isinstance(term, str) and term[0].isupper() else term
                                            for term in body[number][2])
                            marks.add((body[number][1], pattern))
    return marks, in_order(list(made))


def in_mark_order(marks):
    """Marks sorted by predicate, then place by place, None ahead of numbers, these ahead of names."""
    def key(place):
        return (0, 0) if place is None else (2, place) if isinstance(place, str) else (1, place)
    return sorted(marks, key=lambda mark: (mark[0], [key(place) for place in mark[1]]))


class Model:
    """What a keeper must tell, each time worked from the beginning."""

    def __init__(self):
        self.book, self.given, self.last = {}, [], 0

    def due(self, kind, thing):
        """The refusal that is due, or None, and the rules and told facts behind the deed."""
        book, given = dict(self.book), list(self.given)
        if kind in ("rule_out", "take"):
            if thing not in (book if kind == "rule_out" else given):
                return Missing, None, None
            book.pop(thing) if kind == "rule_out" else given.remove(thing)
            return None, book, given
        if thing in (list(book.values()) if kind == "rule_in" else given):
            return Twice, None, None
        if kind == "rule_in":
            book[self.last + 1] = thing
        else:
            given.append(thing)
        try:
            widths_of(book, given)
            if kind == "rule_in" and not is_safe(thing):
                raise Unsafe
            layers_of(book)
        except ReasonError as error:
            return error.__class__, None, None
        return None, book, given

    def meaning(self):
        return plain_meaning(self.book, self.given, layers_of(self.book))


def some_deed(chance, model):
    """A deed of a keeper, the name of its method and what is handed in; often one that is refused."""
    kind = chance.choice(("rule_in", "rule_in", "rule_out", "put", "put", "put", "put", "take", "take"))
    if kind == "rule_in":
        rule = lively_rule(chance) if chance.random() < 0.5 else some_rule(chance, chance.randint(1, 3))
        known = list(model.book.values())
        return kind, chance.choice(known) if known and chance.random() < 0.1 else rule
    if kind == "rule_out":
        return kind, chance.choice(list(model.book) + [model.last + 1])
    if kind == "take" and model.given and chance.random() < 0.8:
        return kind, chance.choice(model.given)
    fact = (some_facts(chance, 9) or [("e", ())])[0]
    return kind, (fact if chance.random() < 0.9 else (fact[0], fact[1][1:]))
