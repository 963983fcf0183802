import unittest
from copy import deepcopy
from fractions import Fraction

from dicepairs import dice
from dicepairs.dice import is_die, mean, need_die, share
from dicepairs.errors import BadDie
from tests.things import NO_DICE, edge_dice


class Interface(unittest.TestCase):
    def test_functions_are_defined_in_this_file(self):
        for name in ["is_die", "need_die", "mean", "share"]:
            with self.subTest(name):
                self.assertEqual(getattr(dice, name).__module__, "dicepairs.dice")


class WhatADieIs(unittest.TestCase):
    def test_dice(self):
        for die in edge_dice():
            with self.subTest(die):
                self.assertIs(is_die(die), True)
                self.assertIsNone(need_die(die))

    def test_no_dice(self):
        for at, thing in enumerate(NO_DICE):
            with self.subTest(at):
                self.assertIs(is_die(thing), False)
                with self.assertRaises(BadDie):
                    need_die(thing)

    def test_one_to_eight_faces(self):
        for many in range(12):
            with self.subTest(many):
                self.assertIs(is_die([3] * many), 1 <= many <= 8)

    def test_faces_from_0_to_99(self):
        for face in range(-3, 104):
            for die in [[face], [face, 5], [5, 5, face]]:
                with self.subTest(die):
                    self.assertIs(is_die(die), 0 <= face <= 99)

    def test_true_and_false_are_no_faces_wherever_they_stand(self):
        for at in range(8):
            for thing in [True, False]:
                die = [1] * 8
                die[at] = thing
                with self.subTest(die):
                    self.assertIs(is_die(die), False)

    def test_what_is_handed_in_is_left_as_it_is(self):
        for thing in edge_dice() + [[], [1] * 9, [5, 100, 1], [3, True, 1], [2, "1"], [[4, 3], 1], {2: [1]}]:
            before = deepcopy(thing)
            with self.subTest(before):
                is_die(thing)
                try:
                    need_die(thing)
                except BadDie:
                    pass
                self.assertEqual(repr(thing), repr(before))


class Mean(unittest.TestCase):
    def test_ordinary(self):
        self.assertEqual(mean([1, 2, 3, 4, 5, 6]), (7, 2))
        self.assertEqual(mean([6, 1, 5, 2, 4, 3]), (7, 2))
        self.assertEqual(mean([2, 4, 6]), (4, 1))
        self.assertEqual(mean([1, 1, 2]), (4, 3))
        self.assertEqual(mean([3, 3, 3]), (3, 1))

    def test_edges(self):
        self.assertEqual(mean([0]), (0, 1))
        self.assertEqual(mean([0] * 8), (0, 1))
        self.assertEqual(mean([99]), (99, 1))
        self.assertEqual(mean([99] * 8), (99, 1))
        self.assertEqual(mean([0, 0, 0, 0, 0, 0, 0, 1]), (1, 8))
        self.assertEqual(mean([0, 0, 0, 0, 0, 0, 1, 1]), (1, 4))
        self.assertEqual(mean([99, 99, 99, 99, 99, 99, 99, 98]), (791, 8))

    def test_like_fractions(self):
        for die in edge_dice():
            with self.subTest(die):
                like = Fraction(sum(die), len(die))
                self.assertEqual(mean(die), (like.numerator, like.denominator))

    def test_a_tuple_of_two_whole_numbers(self):
        for die in edge_dice():
            self.assertIs(type(mean(die)), tuple)
            self.assertEqual([type(part) for part in mean(die)], [int, int])

    def test_refused(self):
        for at, thing in enumerate(NO_DICE):
            with self.subTest(at), self.assertRaises(BadDie):
                mean(thing)

    def test_the_die_is_neither_changed_nor_kept(self):
        die = [5, 1, 3]
        self.assertEqual(mean(die), (3, 1))
        self.assertEqual(die, [5, 1, 3])
        die.append(99)
        self.assertEqual(mean(die), (27, 1))
        self.assertEqual(mean([5, 1, 3]), (3, 1))


class Share(unittest.TestCase):
    def test_ordinary(self):
        self.assertEqual(share(1, 2), (1, 2))
        self.assertEqual(share(2, 4), (1, 2))
        self.assertEqual(share(21, 36), (7, 12))
        self.assertEqual(share(6, 6), (1, 1))
        self.assertEqual(share(5, 1), (5, 1))

    def test_nought(self):
        for d in [1, 2, 7, 36, 4096, 10 ** 100]:
            with self.subTest(d):
                self.assertEqual(share(0, d), (0, 1))

    def test_more_than_the_whole(self):
        self.assertEqual(share(7, 2), (7, 2))
        self.assertEqual(share(14, 4), (7, 2))
        self.assertEqual(share(36, 6), (6, 1))

    def test_great_numbers(self):
        great = 10 ** 99 + 7
        self.assertEqual(share(6 * great, 4 * great), (3, 2))
        self.assertEqual(share(great, great), (1, 1))
        self.assertEqual(share(great, 1), (great, 1))
        self.assertEqual(share(1, great), (1, great))
        self.assertEqual(share(great, great + 1), (great, great + 1))
        self.assertEqual(share(2 ** 400, 6 ** 200), (2 ** 200, 3 ** 200))

    def test_like_fractions(self):
        for n in range(41):
            for d in range(1, 41):
                like = Fraction(n, d)
                self.assertEqual(share(n, d), (like.numerator, like.denominator))

    def test_a_tuple_of_two_whole_numbers(self):
        for pair in [(0, 5), (3, 6), (10 ** 100, 2)]:
            told = share(*pair)
            self.assertIs(type(told), tuple)
            self.assertEqual([type(part) for part in told], [int, int])


if __name__ == "__main__":
    unittest.main()
