"""Things that several tests hand in."""

from itertools import product
from random import Random


class Strange:
    """An object of no kind that the package knows."""


def holding_itself():
    """Return a list that holds itself."""
    rows = []
    rows.append(rows)
    return rows


def deep(levels):
    """Return lists in lists, so many levels deep."""
    rows = []
    for _ in range(levels):
        rows = [rows]
    return rows


# Of each of these neither a die nor a list of dice can be made out.
NO_LISTS = [
    None, True, False, 0, 1, -1, 10 ** 100, "", "1 2 3", "[1, 2]", b"", b"\x01\x02",
    (), (1, 2), ([1, 2],), {}, {1: 2}, {0: [1, 2]}, set(), {1, 2}, frozenset([1]), range(3),
    iter([1, 2]), Strange(), Strange, len, lambda: [1],
]

# Lists that are no dice, whatever is made of their being lists.
BAD_LISTS = [
    [], [1] * 9, list(range(9)), [0] * 1000, [-1], [100], [1, 2, -1], [100, 1, 2], [10 ** 100],
    [-10 ** 100], [True], [False], [1, True], [False, 1, 2], ["1"], [1, "2"], [None], [1, None],
    [[1]], [1, []], [(1,)], [{}], [b"1"], [{1}], [Strange()], [int], holding_itself(), deep(5000),
]

NO_DICE = NO_LISTS + BAD_LISTS


def edge_dice():
    """Return dice at the edges that the document names, new lists each time."""
    return [
        [0], [99], [7], [0, 99], [99, 0], [1, 2, 3, 4, 5, 6], [6, 5, 4, 3, 2, 1], [1, 1], [2, 4, 4, 9],
        [0] * 8, [99] * 8, [1, 2, 3, 4, 5, 6, 7, 8], [8, 3, 3, 0, 99, 50, 3, 1],
    ]


NO_NUMBERS_FROM_0 = [
    -1, -2, -10 ** 100, True, False, None, "", "1", "x", b"1", [], [1], (), (1,), {}, {1: 1},
    set(), {1}, Strange(), int, len, holding_itself(), deep(5000),
]


def brute_sums(dice):
    """Return the sums of all throws, each throw for itself."""
    return [sum(throw) for throw in product(*dice)]


def balance(one, other):
    """Return by how many more throws the first die is above than below."""
    return sum((face > against) - (face < against) for face, against in product(one, other))


def ring_dice(many, lift=0):
    """Return dice of which each beats just the next one, the last one the first one, and no other one.

    In each of as many regions of numbers all dice have one face: one die has the low one there,
    the next die the high one, all others the one between.
    """
    dice = []
    for at in range(many):
        steps = [0 if region == at else 2 if (region + 1) % many == at else 1 for region in range(many)]
        dice.append([lift + 4 * region + step for region, step in enumerate(steps)])
    return dice


def drawn_dice(seed, rows, many, faces, greatest):
    """Return rows of so many dice with up to so many faces, drawn alike in each run of the tests."""
    draw = Random(seed)
    return [
        [[draw.randint(0, greatest) for _ in range(draw.randint(1, faces))] for _ in range(many)]
        for _ in range(rows)
    ]


def level_dice(seed, rows, many):
    """Return rows of so many drawn dice of one mean: among such there often is a ring."""
    draw = Random(seed)
    told = []
    for _ in range(rows):
        dice = []
        while len(dice) < many:
            die = [draw.randint(0, 12) for _ in range(draw.randint(3, 6))]
            if sum(die) == 6 * len(die):
                dice.append(die)
        told.append(dice)
    return told
