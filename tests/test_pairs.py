import unittest
from collections import Counter, defaultdict
from copy import deepcopy
from itertools import combinations_with_replacement, product
from random import Random
from time import perf_counter

from dicepairs import pairs
from dicepairs.errors import BadCounts, BadDie, BadNumber
from dicepairs.pairs import alike, pairs_of
from tests.things import NO_DICE, NO_LISTS, NO_NUMBERS_FROM_0, Strange, brute_sums, deep, holding_itself, level_dice

D6 = [1, 2, 3, 4, 5, 6]
LOW, HIGH = [1, 2, 2, 3, 3, 4], [1, 3, 4, 5, 6, 8]
COMMON = [(tuple(LOW), tuple(HIGH)), (tuple(D6), tuple(D6)), (tuple(HIGH), tuple(LOW))]

SECONDS = 3


def rows_of(one, other):
    """Return the counts of two dice, by all throws one by one."""
    return sorted(Counter(brute_sums([one, other])).items())


def other_of(rows, first):
    """Return the faces, rising, of the only die that comes to the counts with the first one, or None."""
    left = dict(rows)
    other = []
    while left:
        # The least sum left comes by the least face of the first die, as often as this one stands on it.
        face = min(left) - min(first)
        other.append(face)
        for against in first:
            often = left.pop(face + against, 0)
            if often == 0:
                return None
            if often > 1:
                left[face + against] = often - 1
    return tuple(other)


def searched(rows, many, more, least):
    """Return all pairs by a search through all first dice whose faces may be."""
    greatest = rows[-1][0] - rows[0][0] + least
    told = []
    for faces in combinations_with_replacement(range(least, greatest + 1), many - 1):
        first = (least,) + faces
        other = other_of(rows, first)
        if other is not None and len(other) == more:
            told.append((first, other))
    return told


def small_counts():
    """Return many, more and all counts of sums from 0 to 5 that two such dice come to."""
    for many, more in product(range(1, 5), repeat=2):
        seen = {}
        for one in combinations_with_replacement(range(6), many):
            for other in combinations_with_replacement(range(6 - one[-1]), more):
                seen[tuple(rows_of(one, other))] = True
        for rows in seen:
            yield many, more, list(rows)


def moved(told, by):
    """Return the pairs with a number more on all faces of the first die, and less on the second one."""
    return [(tuple(face + by for face in one), tuple(face - by for face in other)) for one, other in told]


class Interface(unittest.TestCase):
    def test_functions_are_defined_in_this_file(self):
        for name in ["pairs_of", "alike"]:
            with self.subTest(name):
                self.assertEqual(getattr(pairs, name).__module__, "dicepairs.pairs")


class PairsOf(unittest.TestCase):
    def test_the_common_dice(self):
        rows = rows_of(D6, D6)
        self.assertEqual(pairs_of(rows, 6, 6, 1), COMMON)
        self.assertEqual(pairs_of(rows, 6, 6, 0), moved(COMMON, -1))
        self.assertEqual(pairs_of(rows, 6, 6, 2), moved(COMMON, 1))
        self.assertEqual(pairs_of(rows_of(LOW, HIGH), 6, 6, 1), COMMON)

    def test_the_common_dice_by_other_numbers_of_faces(self):
        rows = rows_of(D6, D6)
        for many, more in product(range(1, 7), repeat=2):
            if many * more != 36:
                with self.subTest((many, more)), self.assertRaises(BadCounts):
                    pairs_of(rows, many, more, 1)

    def test_one_face_each(self):
        self.assertEqual(pairs_of([(0, 1)], 1, 1, 0), [((0,), (0,))])
        for least in range(8):
            self.assertEqual(pairs_of([(7, 1)], 1, 1, least), [((least,), (7 - least,))])

    def test_one_face_and_six(self):
        rows = [(3, 1), (5, 2), (9, 3)]
        self.assertEqual(pairs_of(rows, 1, 6, 3), [((3,), (0, 2, 2, 6, 6, 6))])
        self.assertEqual(pairs_of(rows, 1, 6, 0), [((0,), (3, 5, 5, 9, 9, 9))])
        self.assertEqual(pairs_of(rows, 6, 1, 3), [((3, 5, 5, 9, 9, 9), (0,))])
        self.assertEqual(pairs_of(rows, 6, 1, 0), [((0, 2, 2, 6, 6, 6), (3,))])
        self.assertEqual(pairs_of([(4, 6)], 6, 1, 1), [((1,) * 6, (3,))])

    def test_two_and_three(self):
        rows = [(2, 1), (3, 2), (4, 2), (5, 1)]
        self.assertEqual(pairs_of(rows, 2, 3, 1), [((1, 2), (1, 2, 3))])
        self.assertEqual(pairs_of(rows, 3, 2, 1), [((1, 2, 3), (1, 2))])

    def test_several_pairs_rise(self):
        rows = [(at, 1) for at in range(4)]
        self.assertEqual(pairs_of(rows, 2, 2, 0), [((0, 1), (0, 2)), ((0, 2), (0, 1))])
        rows = [(at, 1) for at in range(12)]
        self.assertEqual(
            pairs_of(rows, 2, 6, 0),
            [((0, 1), (0, 2, 4, 6, 8, 10)), ((0, 2), (0, 1, 4, 5, 8, 9)), ((0, 3), (0, 1, 2, 6, 7, 8)),
             ((0, 6), (0, 1, 2, 3, 4, 5))],
        )

    def test_none(self):
        self.assertEqual(pairs_of([(0, 1), (1, 1), (2, 1), (4, 1)], 2, 2, 0), [])
        self.assertEqual(pairs_of([(0, 1), (1, 3)], 2, 2, 0), [])
        self.assertEqual(pairs_of([(5, 3), (6, 1)], 2, 2, 4), [])
        self.assertEqual(pairs_of([(0, 1), (1, 1), (2, 2)], 2, 2, 0), [])
        self.assertEqual(pairs_of([(0, 35), (198, 1)], 6, 6, 0), [])
        self.assertEqual(pairs_of([(2, 1), (3, 35)], 6, 6, 1), [])
        # Alike at both ends, but not between.
        self.assertEqual(pairs_of([(0, 1), (1, 2), (3, 3), (5, 2), (6, 1)], 3, 3, 0), [])

    def test_each_least_face_that_may_be(self):
        for one, other in [(D6, D6), ([0, 5, 5], [2, 3]), ([4, 9], [7, 8, 30, 31]), ([99] * 6, [99] * 6)]:
            rows = rows_of(one, other)
            many, more, lowest = len(one), len(other), rows[0][0]
            told = pairs_of(rows, many, more, 0)
            self.assertIn((tuple(sorted(one)), tuple(sorted(other))), moved(told, min(one)))
            for least in range(lowest + 1):
                with self.subTest((one, other, least)):
                    self.assertEqual(pairs_of(rows, many, more, least), moved(told, least))
            with self.assertRaises(BadNumber):
                pairs_of(rows, many, more, lowest + 1)

    def test_faces_beyond_99(self):
        self.assertEqual(pairs_of([(198, 1)], 1, 1, 198), [((198,), (0,))])
        self.assertEqual(pairs_of([(198, 1)], 1, 1, 0), [((0,), (198,))])
        self.assertEqual(pairs_of([(198, 36)], 6, 6, 150), [((150,) * 6, (48,) * 6)])
        self.assertEqual(pairs_of([(0, 1), (198, 1)], 2, 1, 0), [((0, 198), (0,))])
        self.assertEqual(pairs_of([(0, 1), (198, 1)], 1, 2, 0), [((0,), (0, 198))])
        self.assertEqual(pairs_of([(0, 1), (60, 1), (120, 1), (180, 1)], 2, 2, 0),
                         [((0, 60), (0, 120)), ((0, 120), (0, 60))])

    def test_like_a_search_through_all_first_dice_for_all_small_counts(self):
        for many, more, rows in small_counts():
            for least in range(rows[0][0] + 1):
                with self.subTest((many, more, rows, least)):
                    self.assertEqual(pairs_of(rows, many, more, least), searched(rows, many, more, least))

    def test_like_such_a_search_for_greater_counts(self):
        dice = [
            (D6, D6), ([0, 1], [0, 2, 4, 6, 8, 10]), ([0, 0, 1, 1, 2, 2], [0, 0, 3, 3]), ([0, 1, 2], [0, 3, 6, 6]),
            ([0, 1, 1, 2], [0, 1, 1, 2]), ([0, 1, 1, 2, 2, 3], [0, 1, 2, 2, 3, 4]), ([0, 0, 2, 2], [0, 1, 4, 5]),
            ([0, 1, 2, 3], [0, 4, 8, 12]), ([0, 1, 2, 3, 4], [0, 1, 2, 3, 4]), ([0, 0, 0, 1, 1, 1], [0, 1, 1, 1, 1, 2]),
        ]
        for one, other in dice:
            rows = rows_of(one, other)
            for many, more in [(len(one), len(other)), (len(other), len(one))]:
                with self.subTest((one, other, many)):
                    self.assertEqual(pairs_of(rows, many, more, 0), searched(rows, many, more, 0))

    def test_like_such_a_search_for_drawn_counts(self):
        draw = Random(11)
        for _ in range(300):
            many, more = draw.choice([(2, 2), (2, 3), (3, 2), (3, 3), (2, 4), (4, 2)])
            sums = Counter(draw.randint(0, 5) for _ in range(many * more))
            rows = sorted(sums.items())
            with self.subTest((rows, many, more)):
                self.assertEqual(pairs_of(rows, many, more, 0), searched(rows, many, more, 0))

    def test_kinds(self):
        for told in [pairs_of(rows_of(D6, D6), 6, 6, 1), pairs_of([(9, 1)], 1, 1, 4), alike([3, 1], [2])]:
            self.assertIs(type(told), list)
            for pair in told:
                self.assertIs(type(pair), tuple)
                self.assertEqual([type(die) for die in pair], [tuple, tuple])
                self.assertEqual({type(face) for die in pair for face in die}, {int})


class JustTheCounts(unittest.TestCase):
    """Over the whole: pairs with just the counts, none twice, none left out."""

    def test_what_is_told_has_the_counts(self):
        for one, other in DRAWN:
            rows = rows_of(one, other)
            told = pairs_of(rows, len(one), len(other), min(one))
            with self.subTest((one, other)):
                for first, second in told:
                    self.assertEqual(rows_of(first, second), rows)
                    self.assertEqual((len(first), len(second)), (len(one), len(other)))
                    self.assertEqual(first, tuple(sorted(first)))
                    self.assertEqual(second, tuple(sorted(second)))
                    self.assertEqual(first[0], min(one))
                    self.assertGreaterEqual(second[0], 0)
                self.assertEqual(told, sorted({pair: True for pair in told}))

    def test_what_has_the_counts_is_told(self):
        for one, other in DRAWN:
            with self.subTest((one, other)):
                told = pairs_of(rows_of(one, other), len(one), len(other), min(one))
                self.assertIn((tuple(sorted(one)), tuple(sorted(other))), told)

    def test_all_pairs_of_small_dice_by_their_counts(self):
        for many, more in [(2, 2), (3, 3), (4, 2), (2, 6), (4, 4)]:
            groups = defaultdict(list)
            for one in combinations_with_replacement(range(6), many):
                for other in combinations_with_replacement(range(6), more):
                    groups[(tuple(rows_of(one, other)), one[0])].append((one, other))
            for (rows, least), told in groups.items():
                # Of greater sums there may be pairs with greater faces than those tried here.
                if rows[-1][0] - rows[0][0] + max(least, rows[0][0] - least) < 6:
                    with self.subTest((rows, least)):
                        self.assertEqual(pairs_of(list(rows), many, more, least), told)

    def test_the_same_dice_put_together_in_several_ways(self):
        self.assertEqual(pairs_of([(0, 1), (1, 2), (2, 1)], 2, 2, 0), [((0, 1), (0, 1))])
        self.assertEqual(pairs_of([(6, 36)], 6, 6, 3), [((3,) * 6, (3,) * 6)])
        self.assertEqual(pairs_of([(0, 9), (1, 18), (2, 9)], 6, 6, 0), [((0, 0, 0, 1, 1, 1), (0, 0, 0, 1, 1, 1))])
        self.assertEqual(pairs_of([(0, 4), (1, 8), (2, 4)], 4, 4, 0), [
            ((0, 0, 0, 0), (0, 1, 1, 2)), ((0, 0, 1, 1), (0, 0, 1, 1)), ((0, 1, 1, 2), (0, 0, 0, 0)),
        ])


class Alike(unittest.TestCase):
    def test_the_common_dice(self):
        self.assertEqual(alike(D6, D6), COMMON)
        self.assertEqual(alike(LOW, HIGH), COMMON)
        self.assertEqual(alike(HIGH, LOW), COMMON)
        self.assertEqual(alike([6, 3, 1, 5, 4, 2], [2, 1, 6, 5, 4, 3]), COMMON)

    def test_the_least_face_of_the_first_one(self):
        self.assertEqual(alike([face - 1 for face in D6], [face + 1 for face in D6]), moved(COMMON, -1))
        self.assertEqual(alike([face + 1 for face in D6], [face - 1 for face in D6]), moved(COMMON, 1))
        self.assertEqual(alike([90, 95], [7]), [((90, 95), (7,))])
        self.assertEqual(alike([7], [95, 90]), [((7,), (90, 95))])

    def test_as_many_faces_as_theirs(self):
        self.assertEqual(alike([0, 1], [0, 2, 4]), [((0, 1), (0, 2, 4)), ((0, 3), (0, 1, 2))])
        self.assertEqual(alike([4, 0, 2], [1, 0]), [((0, 1, 2), (0, 3)), ((0, 2, 4), (0, 1))])

    def test_edges(self):
        self.assertEqual(alike([0], [0]), [((0,), (0,))])
        self.assertEqual(alike([99], [99]), [((99,), (99,))])
        self.assertEqual(alike([99] * 6, [99] * 6), [((99,) * 6, (99,) * 6)])
        self.assertEqual(alike([0] * 6, [99]), [((0,) * 6, (99,))])

    def test_faces_beyond_99(self):
        step = [0, 19, 38, 57, 76, 95]
        low, high = (0, 19, 19, 38, 38, 57), (0, 38, 57, 76, 95, 133)
        self.assertEqual(alike(step, step), [(low, high), (tuple(step), tuple(step)), (high, low)])
        # What is told with such faces is no pair that may be asked for.
        with self.assertRaises(BadDie):
            alike(list(low), list(high))

    def test_like_pairs_of_their_counts(self):
        for one, other in DRAWN:
            with self.subTest((one, other)):
                told = alike(one, other)
                self.assertEqual(told, pairs_of(rows_of(one, other), len(one), len(other), min(one)))
                self.assertIn((tuple(sorted(one)), tuple(sorted(other))), told)

    def test_each_told_pair_tells_the_same_ones(self):
        for one, other in DRAWN:
            told = alike(one, other)
            for first, second in told:
                if max(first + second) <= 99:
                    with self.subTest((first, second)):
                        self.assertEqual(alike(list(first), list(second)), told)

    def test_the_other_way_round(self):
        for one, other in DRAWN:
            with self.subTest((one, other)):
                self.assertEqual(alike(other, one), sorted((second, first) for first, second in alike(one, other)))


DRAWN = [tuple(row) for row in level_dice(3, 100, 2)] + [
    (D6, D6), (HIGH, LOW), ([5], [7]), ([2, 0], [0, 1, 4, 5, 8, 9]), ([0] * 6, [0] * 6), ([99] * 6, [0, 99]),
    ([5, 4, 3, 2, 1, 0], [30, 24, 18, 12, 6, 0]), ([0, 1, 1, 2, 2, 3], [2, 2, 1, 1, 0, 0]), ([3, 3, 4, 4], [1, 2]),
    ([0, 1, 2, 3], [16, 20, 24, 28]), ([99, 98, 97], [0, 3, 6]), ([1, 2, 2, 3], [1, 3, 3, 5]),
]


class Refused(unittest.TestCase):
    rows = [(2, 1), (3, 2), (4, 1)]
    no_counts = [
        # Rows that are no tuples of two numbers.
        [[2, 1], [3, 2], [4, 1]], [(2, 1), [3, 2], (4, 1)], [(2, 1), (3, 2), (4,)], [(2, 1), (3, 2), (4, 1, 0)],
        [(2, 1), (3, 2), ()], [(2, 1), (3, 2), 4], [(2, 1), (3, 2), None], [(2, 1), (3, 2), (4, 1), None],
        [(2, 1), (3, 2), "41"], [(2, 1), (3, 2), b"41"], [(2, 1), (3, 2), {4: 1}], [(2, 1), (3, 2), {4, 1}],
        [2, 3, 4], [4], [None], ["x"], [((2, 1), (3, 2))], [(2, 1), (3, 2), Strange()], [int],
        [("2", 1), (3, 2), (4, 1)], [(2, "1"), (3, 2), (4, 1)], [(2, 1), (3, None), (4, 1)], [(None, 4)],
        [(2, 1), (3, [2]), (4, 1)], [((2,), 4)], [(2, (4,))], [([], 4)], [(Strange(), 4)], [(2, Strange())],
        [(2, b"4")], [(len, 4)], [(2, {})], [(holding_itself(), 4)], [(2, deep(5000))],
        # True and False are no numbers.
        [(False, 1), (1, 2), (2, 1)], [(0, 1), (True, 2), (2, 1)], [(2, True), (3, 2), (4, 1)],
        [(2, 1), (3, 2), (4, True)], [(True, 4)], [(2, 1), (3, 2), (4, 1), (5, False)],
        # Sums that do not rise.
        [(3, 2), (2, 1), (4, 1)], [(4, 1), (3, 2), (2, 1)], [(2, 1), (4, 1), (3, 2)], [(2, 1), (3, 1), (3, 1), (4, 1)],
        [(2, 2), (2, 2)], [(0, 1), (0, 3)], [(2, 1), (3, 2), (2, 1)],
        # Sums out of range.
        [(-1, 1), (0, 2), (1, 1)], [(-1, 4)], [(199, 4)], [(197, 1), (198, 2), (199, 1)], [(10 ** 100, 4)],
        [(-10 ** 100, 1), (0, 3)], [(0, 3), (200, 1)],
        # How often out of range.
        [(2, 1), (3, 2), (4, 1), (5, 0)], [(2, 0), (3, 4)], [(2, 5), (3, -1)], [(2, -4)], [(2, 0)], [(2, -1), (3, 5)],
        [(2, 10 ** 100)], [(2, 10 ** 100), (3, 4 - 10 ** 100)], [(2, 4), (3, 0)],
        # Too few or too many in all.
        [], [(2, 1)], [(2, 1), (3, 2)], [(2, 1), (3, 2), (4, 2)], [(2, 3)], [(2, 5)], [(2, 1), (3, 2), (4, 1), (5, 1)],
        [(at, 1) for at in range(199)], [(at, 1) for at in range(1000)],
        [(2, 1), (3, 1), (4, 1)], [(2, 4), (3, 4)],
        # Rows that are not in a list.
        ((2, 1), (3, 2), (4, 1)), {2: 1, 3: 2, 4: 1}, {(2, 1): 0, (3, 2): 0, (4, 1): 0}, {(2, 1), (3, 2), (4, 1)},
        {2: 1, 3: 2, 4: 1}.items(), iter([(2, 1), (3, 2), (4, 1)]), zip([2], [4]),
        deep(5000), holding_itself(),
    ]
    no_faces = NO_NUMBERS_FROM_0 + [0, 7, 8, 10 ** 100]

    def test_good_ones_beside_them(self):
        self.assertEqual(pairs_of(self.rows, 2, 2, 1), [((1, 2), (1, 2))])
        self.assertEqual(pairs_of([(0, 1), (1, 2), (2, 1)], 2, 2, 0), [((0, 1), (0, 1))])
        self.assertEqual(pairs_of([(196, 1), (197, 2), (198, 1)], 2, 2, 98), [((98, 99), (98, 99))])
        for many in range(1, 7):
            for more in range(1, 7):
                self.assertEqual(pairs_of([(2, many * more)], many, more, 1), [((1,) * many, (1,) * more)])

    def test_counts(self):
        for at, thing in enumerate(NO_LISTS + self.no_counts):
            with self.subTest(at), self.assertRaises(BadCounts):
                pairs_of(thing, 2, 2, 0)

    def test_many_and_more(self):
        for at, thing in enumerate(self.no_faces):
            with self.subTest(at):
                for many, more in [(thing, 2), (2, thing), (thing, thing), (thing, 1), (1, thing)]:
                    with self.assertRaises(BadNumber):
                        pairs_of(self.rows, many, more, 1)
        # Numbers of faces whose product is right.
        for many, more in [(-2, -2), (-1, -4), (4, True), (True, 4)]:
            with self.subTest((many, more)), self.assertRaises(BadNumber):
                pairs_of(self.rows, many, more, 1)
        for many, more in [(7, 1), (1, 7), (12, 3), (36, 1)]:
            with self.subTest((many, more)), self.assertRaises(BadNumber):
                pairs_of([(0, many * more)], many, more, 0)

    def test_least(self):
        for at, thing in enumerate(NO_NUMBERS_FROM_0 + [3, 4, 99, 10 ** 100]):
            with self.subTest(at), self.assertRaises(BadNumber):
                pairs_of(self.rows, 2, 2, thing)
        for thing in [-1, 1, 198, False]:
            with self.subTest(thing), self.assertRaises(BadNumber):
                pairs_of([(0, 1), (198, 1)], 2, 1, thing)
        with self.assertRaises(BadNumber):
            pairs_of([(198, 1)], 1, 1, 199)

    def test_several_at_once_in_their_order(self):
        for at, thing in enumerate(NO_LISTS + self.no_counts):
            with self.subTest(at):
                for many, more in [(0, 2), (2, 7), (None, True), (thing, thing)]:
                    if (many, more) != (1, 1):
                        with self.assertRaises(BadNumber):
                            pairs_of(thing, many, more, -1)
                for least in [-1, 199, None, True, thing, holding_itself()]:
                    with self.assertRaises(BadCounts):
                        pairs_of(thing, 2, 2, least)
        for least in [-1, 3, None]:
            with self.assertRaises(BadNumber):
                pairs_of(self.rows, 2, "2", least)

    def test_alike(self):
        for at, thing in enumerate(NO_DICE + [[1] * 7, [1, 2, 3, 4, 5, 6, 7], [0] * 8, [99] * 8]):
            with self.subTest(at):
                for one, other in [(thing, D6), (D6, thing), (thing, thing), (thing, [5]), ([5], thing)]:
                    with self.assertRaises(BadDie):
                        alike(one, other)
        # Not even where one face each would do.
        for one, other in [([3] * 7, [1]), ([1], [3] * 7), ([3] * 8, [1] * 8)]:
            with self.subTest((one, other)), self.assertRaises(BadDie):
                alike(one, other)


class Slowest(unittest.TestCase):
    """Dice of six faces each, and counts of which there are many ways to begin."""

    def dice(self):
        steps = [[step * at for at in range(6)] for step in (0, 1, 2, 3, 6, 19)]
        steps += [[99 - face for face in die] for die in steps]
        steps += [[0, 1, 2, 4, 8, 16], [99, 98, 96, 92, 84, 68], [0, 0, 0, 1, 1, 1], [0, 0, 1, 1, 2, 2], [0, 99] * 3,
                  [0, 1, 3, 7, 12, 20], [0, 0, 0, 99, 99, 99], [0, 20, 40, 60, 80, 99], [1, 2, 4, 13, 40, 99]]
        return list(product(steps, steps))

    def test_alike(self):
        for one, other in self.dice():
            begin = perf_counter()
            told = alike(one, other)
            self.assertLess(perf_counter() - begin, SECONDS, (one, other))
            self.assertIn((tuple(sorted(one)), tuple(sorted(other))), told)
            for first, second in told:
                self.assertEqual(rows_of(first, second), rows_of(one, other))

    def test_counts(self):
        draw = Random(17)
        sums = [[0] * 36, list(range(36)), list(range(0, 198, 6)) + [196, 197, 198], list(range(163, 199))]
        sums += [draw.sample(range(199), 36) for _ in range(50)]
        sums += [[draw.randint(0, greatest) for _ in range(36)] for greatest in (1, 2, 5, 10, 20, 198) * 20]
        for row in sums:
            rows = sorted(Counter(row).items())
            begin = perf_counter()
            for least in (0, rows[0][0]):
                for first, second in pairs_of(rows, 6, 6, least):
                    self.assertEqual(rows_of(first, second), rows)
            self.assertLess(perf_counter() - begin, SECONDS, rows)


class TheAskersOwn(unittest.TestCase):
    def test_what_is_handed_in_is_left_as_it_is(self):
        for one, other in deepcopy(DRAWN):
            before = deepcopy((one, other))
            alike(one, other)
            self.assertEqual((one, other), before)
            rows = rows_of(one, other)
            before = list(rows)
            pairs_of(rows, len(one), len(other), min(one))
            self.assertEqual(rows, before)

    def test_what_is_refused_is_left_as_it_is(self):
        for mine in [[(3, 2), (2, 1), (4, 1)], [(2, 1), (3, 2)], [(2, 1), [3, 2], (4, 1)], [[5, 4], (9, 9)]]:
            before = deepcopy(mine)
            with self.assertRaises(BadCounts):
                pairs_of(mine, 2, 2, 1)
            self.assertEqual(mine, before)
        mine = [7, 6, 5, 4, 3, 2, 1]
        with self.assertRaises(BadDie):
            alike(mine, [2, 1])
        self.assertEqual(mine, [7, 6, 5, 4, 3, 2, 1])

    def test_a_changed_answer_changes_no_later_one(self):
        for ask in [lambda: pairs_of(rows_of(D6, D6), 6, 6, 1), lambda: alike(D6, D6)]:
            first = ask()
            first.append(None)
            first[0] = ((9,), (9,))
            self.assertEqual(alike([1], [2]), [((1,), (2,))])
            self.assertEqual(pairs_of([(4, 2)], 1, 2, 3), [((3,), (1, 1))])
            second = ask()
            self.assertEqual(second, COMMON)
            second.clear()
            self.assertEqual(ask(), COMMON)

    def test_a_later_question_changes_no_answer(self):
        first, second = alike(D6, D6), pairs_of([(4, 2)], 1, 2, 3)
        alike([0, 1], [0, 2, 4])
        pairs_of([(0, 1), (1, 1), (2, 1), (3, 1)], 2, 2, 0)
        self.assertEqual(first, COMMON)
        self.assertEqual(second, [((3,), (1, 1))])

    def test_what_is_changed_later_is_asked_anew(self):
        one, other, rows = [2, 1], [3], [(4, 1), (5, 1)]
        first, second = alike(one, other), pairs_of(rows, 2, 1, 1)
        self.assertEqual(first, [((1, 2), (3,))])
        self.assertEqual(second, [((1, 2), (3,))])
        one.append(0)
        other[0] = 9
        rows[1] = (9, 1)
        self.assertEqual(first, [((1, 2), (3,))])
        self.assertEqual(second, [((1, 2), (3,))])
        self.assertEqual(alike(one, other), [((0, 1, 2), (9,))])
        self.assertEqual(pairs_of(rows, 2, 1, 1), [((1, 6), (3,))])


if __name__ == "__main__":
    unittest.main()
