"""Rings of dice in which each beats the next one, and ranks of dice without a ring."""

from dicepairs.beating import beats
from dicepairs.dice import need_dice

MOST_PLACES = 8
LEAST_RING = 3


def ring(dice):
    """Return the least one of the shortest rings, as a list of places, or None; or raise BadDice."""
    need_dice(dice, MOST_PLACES)
    beaten = beaten_places(dice)
    for length in range(LEAST_RING, len(dice) + 1):
        for start in range(len(dice)):
            found = ring_from([start], length, beaten)
            if found is not None:
                return found
    return None


def ranks(dice):
    """Return all places such that no die beats one that stands ahead of it, or None; or raise BadDice."""
    need_dice(dice, MOST_PLACES)
    beaten = beaten_places(dice)
    left = list(range(len(dice)))
    row = []
    while left:
        unbeaten = [place for place in left if not any([place in beaten[other] for other in left])]
        if not unbeaten:
            return None
        row.append(unbeaten[0])
        left.remove(unbeaten[0])
    return row


def beaten_places(dice):
    """Return for each place the rising places whose dice its die beats."""
    return [[place for place, other in enumerate(dice) if beats(die, other)] for die in dice]


def ring_from(row, length, beaten):
    """Return the least ring of the given length that begins with the places of the row, or None."""
    if len(row) == length:
        return row if row[0] in beaten[row[-1]] else None
    for place in beaten[row[-1]]:
        # A ring is told from its least place on, so that no lesser one may follow.
        if place > row[0] and place not in row:
            found = ring_from(row + [place], length, beaten)
            if found is not None:
                return found
    return None
