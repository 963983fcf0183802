import unittest
from fractions import Fraction
from itertools import product

from dicepairs import beating
from dicepairs.beating import above, beats
from dicepairs.errors import BadDie
from tests.things import NO_DICE, drawn_dice, edge_dice

D6 = [1, 2, 3, 4, 5, 6]


def all_pairs():
    """Return pairs of dice, new lists each time."""
    pairs = list(product(edge_dice(), edge_dice()))
    return [(list(one), list(other)) for one, other in pairs] + drawn_dice(5, 300, 2, 8, 9)


def throws(one, other):
    """Return by how many throws the first die is above, alike and below."""
    signs = [(face > against) - (face < against) for face, against in product(one, other)]
    return signs.count(1), signs.count(0), signs.count(-1)


class Interface(unittest.TestCase):
    def test_functions_are_defined_in_this_file(self):
        for name in ["above", "beats"]:
            with self.subTest(name):
                self.assertEqual(getattr(beating, name).__module__, "dicepairs.beating")


class Above(unittest.TestCase):
    def test_ordinary(self):
        self.assertEqual(above([2, 4, 9], [1, 6, 8]), (5, 9))
        self.assertEqual(above([1, 6, 8], [2, 4, 9]), (4, 9))
        self.assertEqual(above(D6, [3]), (1, 2))
        self.assertEqual(above([3], D6), (1, 3))
        self.assertEqual(above([1, 2, 2, 3, 3, 4], [1, 3, 4, 5, 6, 8]), (1, 6))

    def test_a_die_and_itself(self):
        self.assertEqual(above(D6, D6), (5, 12))
        self.assertEqual(above([7], [7]), (0, 1))
        self.assertEqual(above([0] * 8, [0] * 8), (0, 1))
        die = [3, 1, 2, 2]
        self.assertEqual(above(die, die), (5, 16))

    def test_one_face_and_eight(self):
        self.assertEqual(above([99], [0]), (1, 1))
        self.assertEqual(above([0], [99]), (0, 1))
        self.assertEqual(above([0], [0]), (0, 1))
        self.assertEqual(above([5], [1, 2, 3, 4, 5, 6, 7, 8]), (1, 2))
        self.assertEqual(above([1, 2, 3, 4, 5, 6, 7, 8], [5]), (3, 8))
        self.assertEqual(above([99] * 8, [98] * 8), (1, 1))
        self.assertEqual(above([1, 2, 3, 4, 5, 6, 7, 8], [8, 7, 6, 5, 4, 3, 2, 1]), (7, 16))
        self.assertEqual(above([0] * 7 + [1], [0] * 8), (1, 8))

    def test_like_faces_are_different_ones(self):
        self.assertEqual(above([3, 3, 1], [2]), (2, 3))
        self.assertEqual(above([3, 1], [2]), (1, 2))

    def test_like_all_throws_one_by_one(self):
        for one, other in all_pairs():
            with self.subTest((one, other)):
                like = Fraction(throws(one, other)[0], len(one) * len(other))
                self.assertEqual(above(one, other), (like.numerator, like.denominator))

    def test_above_alike_and_below_come_to_the_whole(self):
        for one, other in all_pairs():
            with self.subTest((one, other)):
                alike = Fraction(throws(one, other)[1], len(one) * len(other))
                self.assertEqual(Fraction(*above(one, other)) + Fraction(*above(other, one)) + alike, 1)

    def test_a_tuple_of_two_whole_numbers(self):
        for one, other in all_pairs():
            told = above(one, other)
            self.assertIs(type(told), tuple)
            self.assertEqual([type(part) for part in told], [int, int])


class Beats(unittest.TestCase):
    def test_ordinary(self):
        a, b, c = [2, 4, 9], [1, 6, 8], [3, 5, 7]
        for one, other in [(a, b), (b, c), (c, a), (D6, [3]), ([1, 3, 4, 5, 6, 8], [1, 2, 2, 3, 3, 4])]:
            with self.subTest((one, other)):
                self.assertIs(beats(one, other), True)
                self.assertIs(beats(other, one), False)

    def test_neither_beats_the_other(self):
        for one, other in [([2], [1, 3]), ([0, 9], [5]), (D6, [6, 5, 4, 3, 2, 1]), ([4], [4]), ([0, 99], [98, 1])]:
            with self.subTest((one, other)):
                self.assertIs(beats(one, other), False)
                self.assertIs(beats(other, one), False)

    def test_a_die_does_not_beat_itself(self):
        for die in edge_dice():
            with self.subTest(die):
                self.assertIs(beats(die, die), False)

    def test_it_is_by_throws_and_not_by_sums(self):
        self.assertIs(beats([2, 2, 2], [1, 1, 99]), True)
        self.assertIs(beats([1, 1, 99], [2, 2, 2]), False)

    def test_more_often_above_than_below_is_enough(self):
        # Above by 1 of 8 throws, alike by all others.
        self.assertEqual(above([5, 6], [5, 5, 5, 6]), (3, 8))
        self.assertIs(beats([5, 6], [5, 5, 5, 6]), True)
        self.assertIs(beats([0] * 7 + [1], [0] * 8), True)
        self.assertIs(beats([0] * 8, [0] * 7 + [1]), False)

    def test_like_all_throws_one_by_one(self):
        for one, other in all_pairs():
            with self.subTest((one, other)):
                up, _, down = throws(one, other)
                self.assertIs(beats(one, other), up > down)
                self.assertIs(beats(other, one), down > up)


class Refused(unittest.TestCase):
    def test_either_die(self):
        for ask in [above, beats]:
            for at, thing in enumerate(NO_DICE):
                with self.subTest((ask.__name__, at)):
                    for one, other in [(thing, D6), (D6, thing), (thing, thing), (thing, None), ([9] * 9, thing)]:
                        with self.assertRaises(BadDie):
                            ask(one, other)


class TheAskersOwn(unittest.TestCase):
    def test_dice_are_left_as_they_are(self):
        for ask in [above, beats]:
            for (one, other), before in zip(all_pairs(), all_pairs()):
                ask(one, other)
                self.assertEqual((one, other), tuple(before))

    def test_dice_changed_later_are_asked_anew(self):
        one, other = [3, 1], [2]
        self.assertEqual(above(one, other), (1, 2))
        self.assertIs(beats(one, other), False)
        one[1] = 5
        self.assertEqual(above(one, other), (1, 1))
        self.assertIs(beats(one, other), True)
        other[0] = 9
        self.assertEqual(above(one, other), (0, 1))
        self.assertIs(beats(other, one), True)
        self.assertEqual(above([3, 1], [2]), (1, 2))


if __name__ == "__main__":
    unittest.main()
