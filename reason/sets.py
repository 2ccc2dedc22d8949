"""The told facts beneath a plain fact, and the least sets of them from which it follows."""

from reason.errors import Missing, Mixed, Wide
from reason.measures import Bits, measure_of
from reason.parts import has_bit, least_of, parts_of
from reason.plain import mixed_of, plain_facts
from reason.values import least_values
from reason.webs import Web

MOST_BENEATH = 8


class Ground:
    """A plain fact, the numbers of all facts that lie beneath it, and the told ones among these, in order."""

    def __init__(self, rules, told, fact):
        plain = plain_facts(rules, told)
        if fact[0] in mixed_of(rules):
            raise Mixed("a not or a group stands beneath this predicate")
        if fact not in plain:
            raise Missing("this fact is not in the meaning")
        self.web = Web(rules, plain)
        self.goal = self.web.numbers[fact]
        self.beneath = sorted(self.web.lying_beneath(self.goal))
        given = {}
        for one in told:
            given[one] = True
        self.bases = [plain[number] for number in self.beneath if plain[number] in given]

    def uses_beneath(self):
        """The used facts of the instances beneath, a list by numbers; what makes other facts is left out."""
        uses = [[] for fact in self.web.listed]
        for number in self.beneath:
            uses[number] = self.web.uses[number]
        return uses

    def holding_parts(self):
        """The parts of the told facts beneath from which the fact follows, in order; Wide.

        All parts are worked at once, by bits: a value has a bit for each part from which its fact follows.
        """
        if len(self.bases) > MOST_BENEATH:
            raise Wide(f"more than {MOST_BENEATH} told facts lie beneath this fact")
        parts = parts_of(self.bases)
        begun = [0 for fact in self.web.listed]
        for spot, part in enumerate(parts):
            for fact in part:
                number = self.web.numbers[fact]
                begun[number] = begun[number] | (1 << spot)
        measure = Bits((1 << len(parts)) - 1)
        holding = least_values(measure, self.uses_beneath(), begun)[self.goal]
        return [part for spot, part in enumerate(parts) if has_bit(holding, spot)]


def beneath_of(rules, told, fact):
    """The told facts beneath a plain fact, a sorted list; TooMany, Mixed, Missing."""
    return Ground(rules, told, fact).bases


def sets_of(rules, told, fact):
    """The least sets of told facts from which a plain fact follows, a list of tuples; TooMany, Mixed, Missing, Wide."""
    return least_of(Ground(rules, told, fact).holding_parts())


def put_in(sets, told_values, measure):
    """What sets of told facts give in a measure, by told values; NoMeasure."""
    scale = measure_of(measure)
    return scale.all_joined([scale.all_met([told_values[fact] for fact in one]) for one in sets])
