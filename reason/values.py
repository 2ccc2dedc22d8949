"""The values of plain facts in a measure."""

from reason.measures import measure_of
from reason.plain import plain_facts
from reason.webs import Web


def unlike_ways(uses):
    """The ways that can raise a value, each once: tuples of a fact and the used facts of an instance of it, by numbers.

    A value met with itself is the same, so how often a fact is used is nothing here; nor is a fact raised by itself.
    """
    ways = {}
    for number, instances in enumerate(uses):
        for used in instances:
            if number not in used:
                ways[(number, tuple(sorted(set(used))))] = True
    return list(ways)


class Valuing:
    """Values of numbered facts that ways raise, round by round."""

    def __init__(self, measure, uses, values):
        self.measure = measure
        self.reached = values
        self.ways = unlike_ways(uses)
        self.ways_by_used = [[] for fact in uses]
        for spot, way in enumerate(self.ways):
            for one in way[1]:
                self.ways_by_used[one].append(spot)

    def raised_by(self, spots):
        """Goes some ways, by their spots; the facts whose values became others by it, a list."""
        raised = {}
        for spot in spots:
            way = self.ways[spot]
            before = self.reached[way[0]]
            if before != self.measure.top:
                met = self.measure.all_met([self.reached[one] for one in way[1]])
                value = self.measure.either(before, met)
                if value != before:
                    self.reached[way[0]] = value
                    raised[way[0]] = True
        return list(raised)

    def spots_using(self, numbers):
        """The spots of the ways that use one of some facts, a list, each once."""
        spots = {}
        for number in numbers:
            for spot in self.ways_by_used[number]:
                spots[spot] = True
        return list(spots)


def least_values(measure, uses, values):
    """The least values, from the given ones on, that no instance raises any more; lists by the facts' numbers."""
    valuing = Valuing(measure, uses, list(values))
    spots = list(range(len(valuing.ways)))
    while spots != []:
        spots = valuing.spots_using(valuing.raised_by(spots))
    return valuing.reached


def values_of(rules, told_values, measure):
    """The values of the plain facts of the meaning, a dict by facts; NoMeasure, or TooMany."""
    scale = measure_of(measure)
    web = Web(rules, plain_facts(rules, list(told_values)))
    told = [told_values.get(fact, scale.nought) for fact in web.listed]
    return dict(zip(web.listed, least_values(scale, web.uses, told)))
