"""The told facts beneath a plain fact, and the least sets of them from which it follows."""

from reason.errors import Wide
from reason.measures import Bits, measure_of
from reason.parts import least_of, parts_of
from reason.plain import plain_facts, refuse_unless_plain
from reason.values import least_values
from reason.webs import Web

MOST_BENEATH = 8


def own_bits(count):
    """So many whole numbers, of which each has one bit of its own."""
    bits = []
    bit = 1
    for turn in range(count):
        bits.append(bit)
        bit = bit * 2
    return bits


class Ground:
    """A plain fact, the numbers of all facts that lie beneath it, and the told ones among these, in order."""

    def __init__(self, rules, told, fact):
        plain = plain_facts(rules, told)
        refuse_unless_plain(rules, plain, fact)
        self.web = Web(rules, plain)
        self.goal = self.web.numbers[fact]
        self.beneath = sorted(self.web.lying_beneath(self.goal))
        given = {}
        for one in told:
            given[one] = True
        self.bases = [plain[number] for number in self.beneath if plain[number] in given]

    def uses_beneath(self):
        """The used facts of the instances beneath, a list by numbers; what makes other facts is left out."""
        uses = [[] for fact in self.web.listed]
        for number in self.beneath:
            uses[number] = self.web.uses[number]
        return uses

    def holding_parts(self):
        """The parts of the told facts beneath from which the fact follows, in order; Wide.

        All parts are worked at once, by bits: a value has a bit for each part from which its fact follows.
        """
        if len(self.bases) > MOST_BENEATH:
            raise Wide(f"more than {MOST_BENEATH} told facts lie beneath this fact")
        parts = parts_of(self.bases)
        bits = own_bits(len(parts))
        begun = [0 for fact in self.web.listed]
        for part, bit in zip(parts, bits):
            for fact in part:
                number = self.web.numbers[fact]
                begun[number] = begun[number] | bit
        holding = least_values(Bits(sum(bits)), self.uses_beneath(), begun)[self.goal]
        return [part for part, bit in zip(parts, bits) if (holding & bit) != 0]


def beneath_of(rules, told, fact):
    """The told facts beneath a plain fact, a sorted list; TooMany, Mixed, Missing."""
    return Ground(rules, told, fact).bases


def sets_of(rules, told, fact):
    """The least sets of told facts from which a plain fact follows, a list of tuples; TooMany, Mixed, Missing, Wide."""
    return least_of(Ground(rules, told, fact).holding_parts())


def put_in(sets, told_values, measure):
    """What sets of told facts give in a measure, by told values; NoMeasure."""
    scale = measure_of(measure)
    return scale.all_joined([scale.all_met([told_values[fact] for fact in one]) for one in sets])
