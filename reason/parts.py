"""The parts of a few things, in order."""


def has_bit(bits, spot):
    return (bits >> spot) & 1 == 1


def spots_in(bits, count):
    """The spots, among the first so many, of the bits that a whole number has."""
    return [spot for spot in range(count) if has_bit(bits, spot)]


def parts_of(things):
    """All parts of a list, tuples in its order: the smaller ones first, those of one size by their things, in order."""
    count = len(things)
    picked = sorted([spots_in(bits, count) for bits in range(1 << count)], key=lambda spots: (len(spots), spots))
    return [tuple([things[spot] for spot in spots]) for spots in picked]


def without_one(part):
    """The parts that a part is less one of its things."""
    return [part[:spot] + part[spot + 1:] for spot in range(len(part))]


def least_of(parts):
    """Those of some parts that are not among them less one, in the same order."""
    known = {}
    for part in parts:
        known[part] = True
    return [part for part in parts if not any([less in known for less in without_one(part)])]
