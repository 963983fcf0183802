"""Which die beats which, and how often."""

from dicepairs.dice import need_die, share


def above(one, other):
    """Return the share of throws of both in which the first face is the greater one; or raise BadDie."""
    need_die(one)
    need_die(other)
    return share(throws_above(one, other), len(one) * len(other))


def beats(one, other):
    """Tell whether the first die is above the other one more often than below it; or raise BadDie."""
    need_die(one)
    need_die(other)
    return throws_above(one, other) > throws_above(other, one)


def throws_above(one, other):
    """Return by how many throws of both the first face is the greater one."""
    return len([True for face in one for against in other if face > against])
