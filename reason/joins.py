"""The bindings by which a body holds."""

from reason.errors import NoPlan
from reason.matching import literal_holds, met_by, replaced_by
from reason.rules import are_bound_ahead, body_variables, has_predicate
from reason.terms import constant_key, is_whole


def places_by_predicate(facts):
    """The places of facts, a dict of lists by predicate."""
    rows = {}
    for fact in facts:
        rows.setdefault(fact[0], []).append(fact[1])
    return rows


def both_of(binding, other):
    """Two bindings that agree, as one new one."""
    both = dict(binding)
    both.update(other)
    return both


class Guard:
    """A not, an under or an unlike of a body."""

    def __init__(self, literal):
        self.literal = literal

    def grow(self, bindings, rows, facts):
        return [binding for binding in bindings if literal_holds(self.literal, binding, facts)]


class Meeting:
    """A yes of a body: the bindings that came to it, and how its own facts bind its variables.

    Both are kept by the constants of the variables that they share, so that each one that comes finds its partners
    without a search, and no pair is made twice.
    """

    def __init__(self, literal, ahead):
        self.predicate = literal[1]
        self.terms = literal[2]
        self.shared = [variable for variable in body_variables([literal]) if variable in body_variables(ahead)]
        self.came = {}
        self.met = {}

    def grow(self, bindings, rows, facts):
        grown = []
        for binding in bindings:
            key = replaced_by(self.shared, binding)
            self.came.setdefault(key, []).append(binding)
            grown.extend([both_of(binding, other) for other in self.met.get(key, [])])
        for places in rows.get(self.predicate, []):
            other = met_by(self.terms, places, {})
            if other is not None:
                key = replaced_by(self.shared, other)
                self.met.setdefault(key, []).append(other)
                grown.extend([both_of(binding, other) for binding in self.came.get(key, [])])
        return grown


class Join:
    """The bindings of a safe rule's body, as facts come.

    Its literals are met in the body's own order, the one whose steps are bounded. Each binding is told once, with the
    last of its facts; so facts of a predicate that stands in a not must not come later than those that meet it.
    """

    def __init__(self, body):
        self.begun = False
        self.steps = []
        for number, literal in enumerate(body):
            step = Meeting(literal, body[:number]) if literal[0] == "yes" else Guard(literal)
            self.steps.append(step)

    def grow_by_steps(self, rows, facts):
        """The bindings that fresh facts bring of the first so many literals: a list of lists, from no literal to all.

        The fresh facts are told as their places, by predicate; facts are a dict that has all facts as keys.
        """
        bindings = [] if self.begun else [{}]
        self.begun = True
        grown = [bindings]
        for step in self.steps:
            bindings = step.grow(bindings, rows, facts)
            grown.append(bindings)
        return grown

    def grow(self, fresh, facts):
        """The bindings of the whole body that the fresh facts bring; facts are a dict that has all facts as keys."""
        return self.grow_by_steps(places_by_predicate(fresh), facts)[-1]


def bindings_by_steps(body, facts):
    """The bindings of the first so many literals of a body, each once: a list of lists, from no literal to all."""
    known = {}
    for fact in facts:
        known[fact] = True
    return Join(body).grow_by_steps(places_by_predicate(known), known)


def found_bindings(body, facts):
    """The bindings of a body, each once, in no told order."""
    return bindings_by_steps(body, facts)[-1]


def bound_literal(literal, binding):
    """A literal with the variables that a binding has replaced."""
    if has_predicate(literal):
        return (literal[0], literal[1], replaced_by(literal[2], binding))
    return (literal[0],) + replaced_by(literal[1:], binding)


def bound_body(body, binding):
    """A body with the variables that a binding has replaced."""
    return [bound_literal(literal, binding) for literal in body]


def bindings_from(start, body, facts):
    """The bindings of a body that agree with a binding to start from, with all that this one has, in no told order."""
    return [both_of(start, binding) for binding in found_bindings(bound_body(body, start), facts)]


def bindings_of(body, facts):
    """The bindings of a body, a sorted list of dicts."""
    variables = body_variables(body)
    return sorted(found_bindings(body, facts), key=lambda binding: [constant_key(binding[name]) for name in variables])


def is_plan(body, plan):
    if not all([is_whole(number) for number in plan]) or sorted(plan) != list(range(len(body))):
        return False
    return are_bound_ahead([body[number] for number in plan])


def joined_by(body, plan, facts):
    """The bindings of a body by a plan, a sorted list of dicts; NoPlan where it is none."""
    if not is_plan(body, plan):
        raise NoPlan("this is no plan of the body")
    # By any plan the bindings are the same. Only those of the body's own order are few at each of its steps: another
    # plan may run through so many that no answer comes.
    return bindings_of(body, facts)
