"""How often each sum of dice comes."""

from dicepairs.dice import is_number, need_dice, share
from dicepairs.errors import BadNumber

MOST_DICE = 4


def counts(dice):
    """Return the tuples (sum, by how many throws it comes), rising by sums; or raise BadDice."""
    need_dice(dice, MOST_DICE)
    ways = {0: 1}
    for die in dice:
        ways = ways_with(ways, die)
    return sorted(ways.items())


def ways_with(ways, die):
    """Return by how many throws each sum comes when one more die is thrown."""
    more = {}
    for total, many in ways.items():
        # Each face counts for itself, so that like faces add their throws up.
        for face in die:
            more[total + face] = more.get(total + face, 0) + many
    return more


def at_least(dice, bound):
    """Return the share of throws whose sum is the bound or more; or raise BadDice, BadNumber."""
    rows = counts(dice)
    if not is_number(bound) or bound < 0:
        raise BadNumber("the bound is a number from 0 on")
    enough = sum([many for total, many in rows if total >= bound])
    thrown = sum([row[1] for row in rows])
    return share(enough, thrown)
