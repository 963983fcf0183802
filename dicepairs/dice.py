"""What a die is, and shares in lowest terms."""

from math import gcd

from dicepairs.errors import BadDice, BadDie

MOST_FACES = 8
GREATEST_FACE = 99


def is_number(thing):
    """Tell whether the thing is a whole number."""
    # True and False count as integers in Python, but not as numbers here.
    return isinstance(thing, int) and not isinstance(thing, bool)


def is_face(thing):
    """Tell whether the thing may stand on a die."""
    return is_number(thing) and 0 <= thing <= GREATEST_FACE


def is_die(thing):
    """Tell whether the thing, of any kind, is a die."""
    if not isinstance(thing, list) or not 1 <= len(thing) <= MOST_FACES:
        return False
    return all([is_face(face) for face in thing])


def need_die(thing):
    """Refuse what is no die, by BadDie."""
    if not is_die(thing):
        raise BadDie(f"a die is a list of 1 to {MOST_FACES} numbers from 0 to {GREATEST_FACE}")


def need_dice(thing, most):
    """Refuse what is no list of 1 to so many dice, by BadDice."""
    if not isinstance(thing, list) or not 1 <= len(thing) <= most:
        raise BadDice(f"dice are a list of 1 to {most} dice")
    if not all([is_die(die) for die in thing]):
        raise BadDice("one of the dice is no die")


def share(n, d):
    """Return the share that n is of d, in lowest terms: nought is (0, 1)."""
    common = gcd(n, d)
    return (n // common, d // common)


def mean(die):
    """Return the sum of the faces by how many they are, as a share; or raise BadDie."""
    need_die(die)
    return share(sum(die), len(die))
