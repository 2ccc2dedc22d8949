"""From a question: the marks that it leads to, the facts that they reach, and the answers among these."""

from reason.joins import Join, places_by_predicate
from reason.layers import layer_of, layers_of, rules_in_layer
from reason.meaning import meaning_of
from reason.rules import is_group
from reason.terms import constant_key, is_variable


def picked(things, spots):
    return tuple([things[spot] for spot in spots])


def shape_of(mark):
    """A mark's predicate, and the spots of the places where it has constants."""
    return (mark[0], tuple([spot for spot, place in enumerate(mark[1]) if place is not None]))


def row_of(mark):
    """The constants of a mark."""
    return tuple([place for place in mark[1] if place is not None])


def mark_by(literal, binding):
    """The mark of a yes literal: its predicate, with constants as far as a binding has them."""
    return (literal[1], tuple([binding.get(term, None if is_variable(term) else term) for term in literal[2]]))


def mark_key(mark):
    """What a mark is sorted by; None stands ahead of all constants."""
    return (mark[0], [(-1, 0) if place is None else constant_key(place) for place in mark[1]])


class Search:
    """The marks of a layer, as far as they have come, and those of them that no rule has seen yet.

    Each fact of the meaning that meets a mark is made in the end, and a fact that meets a literal meets the literal's
    mark. So no rule need wait until a fact is made: from the beginning literals are met by all facts of the meaning.
    Marks of one shape go through a rule together: a join that begins with the mark, as with a yes ahead of the body,
    finds each binding once, however many marks come.
    """

    def __init__(self, rules, told, predicate):
        self.meaning = meaning_of(rules, told)
        self.known = {}
        for fact in self.meaning:
            self.known[fact] = True
        layers = layers_of(rules)
        number = layer_of(layers, predicate)
        self.own_predicates = [name for name in layers if layers[name] == number]
        self.own_rules = list(rules_in_layer(rules, layers, number).values())
        self.marked = {}
        self.waiting = {}
        self.joins_by_shape = {}

    def note(self, mark):
        if mark not in self.marked:
            self.marked[mark] = True
            self.waiting.setdefault(shape_of(mark), []).append(row_of(mark))

    def begun_joins(self, shape):
        """For the marks of a new shape, each rule that may make a fact that meets one, with a join for it."""
        begun = []
        rows = places_by_predicate(self.meaning)
        for rule in self.own_rules:
            if rule[0] == shape[0] and not is_group(rule):
                join = Join((("yes", shape, picked(rule[1], shape[1])),) + rule[2])
                join.grow_by_steps(rows, self.known)
                begun.append((rule, join))
        return begun

    def go_through(self, shape, rows):
        """Notes the marks that rules bring by fresh marks of a shape."""
        if shape not in self.joins_by_shape:
            self.joins_by_shape[shape] = self.begun_joins(shape)
        for rule, join in self.joins_by_shape[shape]:
            steps = join.grow_by_steps({shape: rows}, self.known)
            for number, literal in enumerate(rule[2]):
                if literal[0] == "yes" and literal[1] in self.own_predicates:
                    # The mark is the join's first literal, so behind it and the literals ahead is one step more.
                    for binding in steps[number + 1]:
                        self.note(mark_by(literal, binding))

    def run(self):
        """Goes on until rules have seen all marks."""
        while len(self.waiting) > 0:
            shape = list(self.waiting)[0]
            self.go_through(shape, self.waiting.pop(shape))


def reached_by(marks, facts):
    """The facts that meet one of some marks, a list in the same order."""
    rows_by_shape = {}
    for mark in marks:
        rows = rows_by_shape.setdefault(shape_of(mark), {})
        rows[row_of(mark)] = True
    reached = {}
    for shape, rows in rows_by_shape.items():
        for fact in facts:
            if fact[0] == shape[0] and picked(fact[1], shape[1]) in rows:
                reached[fact] = True
    return [fact for fact in facts if fact in reached]


def asked_of(rules, told, question):
    """A tuple of lists: the answers to a question, the marks, and the made facts; TooMany."""
    search = Search(rules, told, question[0])
    search.note(question)
    search.run()
    marks = sorted(search.marked, key=mark_key)
    return (reached_by([question], search.meaning), marks, reached_by(marks, search.meaning))
