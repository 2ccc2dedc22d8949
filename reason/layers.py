"""Layers of predicates, and the rings that leave none."""

from reason.errors import Ring
from reason.rules import has_predicate, is_group


def steps_of(rules):
    """The steps from a body's predicate to the head's, each once: tuples (from, to, rise), rise 0 or 1."""
    steps = {}
    for rule in rules.values():
        for literal in rule[2]:
            if has_predicate(literal):
                rise = 1 if literal[0] == "not" or is_group(rule) else 0
                steps[(literal[1], rule[0], rise)] = True
    return list(steps)


def way_of(steps, start, goal):
    """Predicates from start to goal, each once and each a step from the one ahead, or None."""
    ways = {start: (start,)}
    grows = True
    while grows and goal not in ways:
        grows = False
        for step in steps:
            if step[0] in ways and step[1] not in ways:
                ways[step[1]] = ways[step[0]] + (step[1],)
                grows = True
    return ways.get(goal)


def ring_of(steps):
    """A ring of the steps, or None: a rising step, closed by a way back."""
    for step in steps:
        if step[2] == 1:
            way = way_of(steps, step[1], step[0])
            if way is not None:
                return way
    return None


def lifted(layers, steps):
    """The least layers, from the given ones on, in which no step falls short; there is no ring."""
    lifted_layers = dict(layers)
    grows = True
    while grows:
        grows = False
        for step in steps:
            least = lifted_layers[step[0]] + step[2]
            if lifted_layers[step[1]] < least:
                lifted_layers[step[1]] = least
                grows = True
    return lifted_layers


def layers_of(rules):
    """The layer of each predicate in the rules, a dict; Ring where there are no layers."""
    steps = steps_of(rules)
    ring = ring_of(steps)
    if ring is not None:
        raise Ring(ring)
    layers = {}
    for rule in rules.values():
        layers[rule[0]] = 0
    for step in steps:
        layers[step[0]] = 0
    return lifted(layers, steps)


def layer_of(layers, predicate):
    """The layer of a predicate; one in no rule is in layer 0."""
    return layers.get(predicate, 0)


def top_layer(layers):
    """The last layer that there is."""
    return max([0] + list(layers.values()))


def rules_in_layer(rules, layers, layer):
    """The rules for predicates of a layer, a dict by numbers, in the order of these."""
    own = {}
    for number in sorted(rules):
        if layers[rules[number][0]] == layer:
            own[number] = rules[number]
    return own
