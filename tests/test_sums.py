import unittest
from collections import Counter
from fractions import Fraction

from dicepairs import sums
from dicepairs.errors import BadDice, BadNumber
from dicepairs.sums import at_least, counts
from tests.things import NO_DICE, NO_LISTS, NO_NUMBERS_FROM_0, brute_sums, edge_dice

D6 = [1, 2, 3, 4, 5, 6]


def wide():
    """Return four dice of eight faces each: as many throws as there can be."""
    return [
        [0, 99, 98, 1, 50, 51, 49, 2], [8, 7, 6, 5, 4, 3, 2, 1], [99, 99, 0, 0, 13, 13, 13, 77],
        [3, 14, 15, 92, 65, 35, 89, 79],
    ]


def good_dice():
    """Return lists of 1 to 4 dice, new lists each time."""
    return [[die] for die in edge_dice()] + [
        [[1, 2, 3, 4, 5, 6], [6, 5, 4, 3, 2, 1]], [[1, 3], [2, 2]], [[0, 99], [99, 0], [5]],
        [[1, 1], [1, 1], [1, 1]], [[0], [0], [0], [0]], [[99] * 8] * 4, [[8, 7, 6, 5, 4, 3, 2, 1]] * 4,
        [[0, 10], [0, 20], [0, 40], [80, 0]], [[5, 1, 3], [4, 2], [9, 9, 0, 1], [7, 6]], wide(),
    ]


def bad_dice():
    """Return what is no list of 1 to 4 dice."""
    rows = list(NO_LISTS)
    rows += [[], [D6] * 5, [D6] * 8, [D6] * 9, [[1]] * 1000]
    rows += [(D6, D6), (D6,), (tuple(D6),), {0: D6}, {"dice": [D6]}]
    # A die is no list of dice.
    rows += [[1, 2, 3], [1], [0, [1]]]
    for thing in NO_DICE:
        rows += [[thing], [thing, D6], [D6, thing], [D6, D6, thing, D6], [D6, D6, D6, thing]]
    return rows


class Interface(unittest.TestCase):
    def test_functions_are_defined_in_this_file(self):
        for name in ["counts", "at_least"]:
            with self.subTest(name):
                self.assertEqual(getattr(sums, name).__module__, "dicepairs.sums")


class Counts(unittest.TestCase):
    def test_one_die(self):
        self.assertEqual(counts([[7]]), [(7, 1)])
        self.assertEqual(counts([[0]]), [(0, 1)])
        self.assertEqual(counts([[99, 0]]), [(0, 1), (99, 1)])
        self.assertEqual(counts([[4, 2, 9, 4]]), [(2, 1), (4, 2), (9, 1)])

    def test_two_dice(self):
        ordinary = [(2, 1), (3, 2), (4, 3), (5, 4), (6, 5), (7, 6), (8, 5), (9, 4), (10, 3), (11, 2), (12, 1)]
        self.assertEqual(counts([D6, D6]), ordinary)
        self.assertEqual(counts([[1, 2, 2, 3, 3, 4], [1, 3, 4, 5, 6, 8]]), ordinary)

    def test_like_faces_are_different_ones(self):
        self.assertEqual(counts([[1, 1], [1, 1], [1, 1]]), [(3, 8)])
        self.assertEqual(counts([[0] * 8] * 4), [(0, 4096)])
        self.assertEqual(counts([[99] * 8] * 4), [(396, 4096)])

    def test_sums_that_do_not_come_are_left_out(self):
        self.assertEqual(counts([[0, 10], [0, 30]]), [(0, 1), (10, 1), (30, 1), (40, 1)])

    def test_like_all_throws_one_by_one_up_to_the_widest(self):
        for dice in good_dice():
            with self.subTest(dice):
                self.assertEqual(counts(dice), sorted(Counter(brute_sums(dice)).items()))

    def test_kinds(self):
        for dice in good_dice():
            told = counts(dice)
            self.assertIs(type(told), list)
            for row in told:
                self.assertIs(type(row), tuple)
                self.assertEqual([type(part) for part in row], [int, int])

    def test_refused(self):
        for at, thing in enumerate(bad_dice()):
            with self.subTest(at), self.assertRaises(BadDice):
                counts(thing)

    def test_one_to_four_dice(self):
        for many in range(1, 5):
            self.assertEqual(counts([[2]] * many), [(2 * many, 1)])
        for many in [0, 5, 6]:
            with self.subTest(many), self.assertRaises(BadDice):
                counts([[2]] * many)


class AtLeast(unittest.TestCase):
    def test_ordinary(self):
        self.assertEqual(at_least([D6, D6], 7), (7, 12))
        self.assertEqual(at_least([D6, D6], 12), (1, 36))
        self.assertEqual(at_least([D6], 4), (1, 2))
        self.assertEqual(at_least([[0, 10], [0, 30]], 11), (1, 2))

    def test_nought_and_the_whole(self):
        self.assertEqual(at_least([D6, D6], 0), (1, 1))
        self.assertEqual(at_least([D6, D6], 2), (1, 1))
        self.assertEqual(at_least([D6, D6], 13), (0, 1))
        self.assertEqual(at_least([[0]], 0), (1, 1))
        self.assertEqual(at_least([[0]], 1), (0, 1))
        self.assertEqual(at_least([[99] * 8] * 4, 396), (1, 1))
        self.assertEqual(at_least([[99] * 8] * 4, 397), (0, 1))

    def test_a_bound_of_a_hundred_figures(self):
        self.assertEqual(at_least([D6], 10 ** 99), (0, 1))
        self.assertEqual(at_least(wide(), 10 ** 100 - 1), (0, 1))

    def test_each_bound_like_all_throws_one_by_one(self):
        for dice in good_dice():
            throws = brute_sums(dice)
            many_of = Counter(throws)
            for bound in [0] + [at + more for at in many_of for more in (0, 1)]:
                like = Fraction(sum(many for at, many in many_of.items() if at >= bound), len(throws))
                self.assertEqual(at_least(dice, bound), (like.numerator, like.denominator))

    def test_a_tuple_of_two_whole_numbers(self):
        for bound in [0, 5, 99]:
            told = at_least([D6, D6], bound)
            self.assertIs(type(told), tuple)
            self.assertEqual([type(part) for part in told], [int, int])

    def test_bad_dice_are_refused(self):
        for at, thing in enumerate(bad_dice()):
            with self.subTest(at), self.assertRaises(BadDice):
                at_least(thing, 7)

    def test_bad_bounds_are_refused(self):
        for at, thing in enumerate(NO_NUMBERS_FROM_0):
            with self.subTest(at), self.assertRaises(BadNumber):
                at_least([D6], thing)

    def test_dice_are_refused_before_the_bound(self):
        for at, thing in enumerate(NO_NUMBERS_FROM_0):
            with self.subTest(at):
                for dice in [None, [], [D6] * 5, (D6,), [D6, [100]], [D6, [True]]]:
                    with self.assertRaises(BadDice):
                        at_least(dice, thing)


class TheAskersOwn(unittest.TestCase):
    def test_dice_are_left_as_they_are(self):
        for mine, before in zip(good_dice(), good_dice()):
            with self.subTest(before):
                counts(mine)
                self.assertEqual(mine, before)
                at_least(mine, 5)
                self.assertEqual(mine, before)

    def test_refused_dice_are_left_as_they_are(self):
        mine = [[3, 1, 2], [100, 5], [9, 8]]
        for ask in [counts, lambda dice: at_least(dice, 3)]:
            with self.assertRaises(BadDice):
                ask(mine)
            self.assertEqual(mine, [[3, 1, 2], [100, 5], [9, 8]])

    def test_a_changed_answer_changes_no_later_one(self):
        first = counts([[1, 2], [3]])
        first.append((99, 99))
        first[0] = None
        self.assertEqual(counts([[5]]), [(5, 1)])
        second = counts([[1, 2], [3]])
        self.assertEqual(second, [(4, 1), (5, 1)])
        second.clear()
        self.assertEqual(at_least([[1, 2], [3]], 5), (1, 2))
        self.assertEqual(counts([[1, 2], [3]]), [(4, 1), (5, 1)])

    def test_a_later_question_changes_no_answer(self):
        first = counts([D6])
        counts([[1], [2]])
        at_least([[50]], 3)
        self.assertEqual(first, [(face, 1) for face in D6])
        self.assertIsNot(counts([D6]), first)

    def test_dice_changed_later_are_asked_anew(self):
        dice = [[1, 2], [3]]
        first = counts(dice)
        self.assertEqual(at_least(dice, 5), (1, 2))
        dice[0].append(9)
        dice[1][0] = 0
        self.assertEqual(first, [(4, 1), (5, 1)])
        self.assertEqual(counts(dice), [(1, 1), (2, 1), (9, 1)])
        self.assertEqual(at_least(dice, 5), (1, 3))


if __name__ == "__main__":
    unittest.main()
