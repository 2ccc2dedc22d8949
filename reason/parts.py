"""The parts of a few things, in order."""


def parts_of(things):
    """All parts of a list, tuples in its order: the smaller ones first, those of one size by their things, in order."""
    picked = [[]]
    for spot in range(len(things)):
        picked = picked + [spots + [spot] for spots in picked]
    ordered = sorted(picked, key=lambda spots: (len(spots), spots))
    return [tuple([things[spot] for spot in spots]) for spots in ordered]


def without_one(part):
    """The parts that a part is less one of its things."""
    return [part[:spot] + part[spot + 1:] for spot in range(len(part))]


def least_of(parts):
    """Those of some parts that are not among them less one, in the same order."""
    known = {}
    for part in parts:
        known[part] = True
    return [part for part in parts if not any([less in known for less in without_one(part)])]
