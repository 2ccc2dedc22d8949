"""What several tests of the project need."""


class Agrees:
    """Says yes to every comparison, so that a careless look takes it for anything."""

    __hash__ = None

    def __eq__(self, other):
        return True

    def __ne__(self, other):
        return False

    def __len__(self):
        return 1


def yes(predicate, *terms):
    return ("yes", predicate, terms)


def no(predicate, *terms):
    return ("not", predicate, terms)


def numbered(*rules):
    return dict(enumerate(rules, 1))
