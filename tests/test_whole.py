"""What holds over the whole program."""

import unittest
from copy import deepcopy
from fractions import Fraction
from math import prod

from dicepairs.beating import above, beats
from dicepairs.dice import is_die, mean, need_die, share
from dicepairs.notes import die_of, die_text
from dicepairs.pairs import alike, pairs_of
from dicepairs.rings import ranks, ring
from dicepairs.sums import at_least, counts
from tests.things import balance, drawn_dice, edge_dice, level_dice, ring_dice

D6 = [1, 2, 3, 4, 5, 6]


def some_dice():
    """Return lists of 1 to 4 dice, new ones each time."""
    rows = [[die] for die in edge_dice()] + [[die, D6[::-1]] for die in edge_dice()]
    for many in range(1, 5):
        rows += drawn_dice(many, 20, many, 8, 99) + drawn_dice(many + 10, 20, many, 6, 9)
    return rows


def two_dice():
    """Return pairs of dice, new ones each time."""
    rows = [[one, other] for one in edge_dice() for other in edge_dice()]
    return rows + drawn_dice(31, 60, 2, 8, 99) + drawn_dice(32, 60, 2, 6, 6) + level_dice(33, 60, 2)


def rows_of_dice():
    """Return rows of 3 to 8 dice, new ones each time."""
    rows = [ring_dice(many) for many in range(3, 9)]
    for many in range(3, 9):
        rows += level_dice(many, 20, many) + drawn_dice(many, 20, many, 4, 6)
    return rows


def with_more(die, by):
    """Return the die with a number more on all faces."""
    return [face + by for face in die]


def with_less_each(die):
    """Return the die with each face taken from 99."""
    return [99 - face for face in die]


def room(dice):
    """Return numbers from 1 on that may be added to all faces of all dice."""
    most = 99 - max(max(die) for die in dice)
    return [by for by in sorted({1, 7, most}) if 1 <= by <= most]


class CountsSharesAndMeans(unittest.TestCase):
    def test_counts_come_to_all_throws(self):
        for dice in some_dice():
            with self.subTest(dice):
                rows = counts(dice)
                self.assertEqual(sum(many for _, many in rows), prod(len(die) for die in dice))
                self.assertEqual(rows[0][0], sum(min(die) for die in dice))
                self.assertEqual(rows[-1][0], sum(max(die) for die in dice))

    def test_shares_follow_from_counts(self):
        for dice in some_dice():
            rows = counts(dice)
            left = throws = sum(many for _, many in rows)
            with self.subTest(dice):
                for total, many in rows:
                    self.assertEqual(at_least(dice, total), share(left, throws))
                    left -= many
                    self.assertEqual(at_least(dice, total + 1), share(left, throws))
                self.assertEqual(at_least(dice, 0), (1, 1))
                self.assertEqual(left, 0)

    def test_the_mean_of_sums_is_the_sum_of_means(self):
        for dice in some_dice():
            rows = counts(dice)
            with self.subTest(dice):
                of_sums = Fraction(sum(total * many for total, many in rows), sum(many for _, many in rows))
                self.assertEqual(of_sums, sum(Fraction(*mean(die)) for die in dice))
                self.assertEqual(of_sums, sum(Fraction(*at_least(dice, bound)) for bound in range(1, rows[-1][0] + 1)))

    def test_dice_put_together(self):
        for dice in some_dice():
            for cut in range(1, len(dice)):
                with self.subTest((dice, cut)):
                    joined = {}
                    for total, many in counts(dice[:cut]):
                        for further, more in counts(dice[cut:]):
                            joined[total + further] = joined.get(total + further, 0) + many * more
                    self.assertEqual(counts(dice), sorted(joined.items()))

    def test_neither_the_order_of_dice_nor_that_of_faces_tells(self):
        for dice in some_dice():
            with self.subTest(dice):
                other = [sorted(die) for die in dice[::-1]]
                self.assertEqual(counts(other), counts(dice))
                self.assertEqual(at_least(other, 9), at_least(dice, 9))
                self.assertEqual([mean(die) for die in other[::-1]], [mean(die) for die in dice])

    def test_a_number_more_on_all_faces_of_one_die(self):
        for dice in some_dice():
            for by in room(dice):
                with self.subTest((dice, by)):
                    moved = [with_more(dice[0], by)] + dice[1:]
                    self.assertEqual(counts(moved), [(total + by, many) for total, many in counts(dice)])
                    self.assertEqual(at_least(moved, 9 + by), at_least(dice, 9))
                    self.assertEqual(Fraction(*mean(moved[0])), Fraction(*mean(dice[0])) + by)

    def test_each_face_twice(self):
        for dice in some_dice():
            if len(dice[-1]) <= 4:
                with self.subTest(dice):
                    twice = dice[:-1] + [dice[-1] * 2]
                    self.assertEqual(counts(twice), [(total, 2 * many) for total, many in counts(dice)])
                    self.assertEqual(at_least(twice, 9), at_least(dice, 9))
                    self.assertEqual(mean(twice[-1]), mean(dice[-1]))
                    self.assertEqual(above(twice[-1], D6), above(dice[-1], D6))
                    self.assertIs(beats(D6, twice[-1]), beats(D6, dice[-1]))


class Beating(unittest.TestCase):
    def test_above_a_die_of_one_face(self):
        for die in edge_dice() + [one for one, _ in two_dice()]:
            for face in range(0, 100, 9):
                with self.subTest((die, face)):
                    self.assertEqual(above(die, [face]), at_least([die], face + 1))

    def test_above_follows_from_sums(self):
        # The first face is the greater one where it and 99 less the other one come to 100 or more.
        for one, other in two_dice():
            with self.subTest((one, other)):
                sums = [one, with_less_each(other)]
                self.assertEqual(above(one, other), at_least(sums, 100))
                below = 1 - Fraction(*at_least(sums, 99))
                self.assertEqual(above(other, one), (below.numerator, below.denominator))
                alike_often = dict(counts(sums)).get(99, 0)
                whole = Fraction(*above(one, other)) + Fraction(*above(other, one))
                self.assertEqual(whole + Fraction(alike_often, len(one) * len(other)), 1)

    def test_beats_follows_from_above(self):
        for one, other in two_dice():
            with self.subTest((one, other)):
                self.assertIs(beats(one, other), Fraction(*above(one, other)) > Fraction(*above(other, one)))
                self.assertFalse(beats(one, other) and beats(other, one))

    def test_a_number_more_on_all_faces_of_both(self):
        for one, other in two_dice():
            for by in room([one, other]):
                with self.subTest((one, other, by)):
                    self.assertEqual(above(with_more(one, by), with_more(other, by)), above(one, other))
                    self.assertIs(beats(with_more(one, by), with_more(other, by)), beats(one, other))

    def test_a_number_more_on_all_faces_of_one_is_never_less_above(self):
        for one, other in two_dice():
            for by in room([one]):
                with self.subTest((one, other, by)):
                    more = with_more(one, by)
                    self.assertGreaterEqual(Fraction(*above(more, other)), Fraction(*above(one, other)))
                    self.assertLessEqual(Fraction(*above(other, more)), Fraction(*above(other, one)))
                    self.assertTrue(beats(more, one))

    def test_all_taken_from_99_turns_beating_round(self):
        for one, other in two_dice():
            with self.subTest((one, other)):
                self.assertEqual(above(with_less_each(one), with_less_each(other)), above(other, one))
                self.assertIs(beats(with_less_each(one), with_less_each(other)), beats(other, one))

    def test_rings_and_ranks_by_beating(self):
        for dice in rows_of_dice():
            with self.subTest(dice):
                row, order = ring(dice), ranks(dice)
                self.assertEqual(row is None, order is not None)
                if row is not None:
                    self.assertTrue(all(beats(dice[row[at - 1]], dice[row[at]]) for at in range(len(row))))
                else:
                    for at, place in enumerate(order):
                        left = order[at:]
                        self.assertFalse(any(beats(dice[later], dice[place]) for later in left))
                        free = [one for one in left if all(balance(dice[two], dice[one]) <= 0 for two in left)]
                        self.assertEqual(place, min(free))

    def test_a_number_more_changes_neither_rings_nor_ranks(self):
        for dice in rows_of_dice():
            for by in room(dice):
                with self.subTest((dice, by)):
                    moved = [with_more(die, by) for die in dice]
                    self.assertEqual(ring(moved), ring(dice))
                    self.assertEqual(ranks(moved), ranks(dice))


class Pairs(unittest.TestCase):
    def small(self):
        return [pair for pair in two_dice() if max(len(die) for die in pair) <= 6]

    def test_alike_dice_have_like_counts_shares_and_means(self):
        for one, other in self.small():
            for first, second in alike(one, other):
                if max(first + second) <= 99:
                    with self.subTest((one, other, first, second)):
                        dice = [list(first), list(second)]
                        self.assertEqual(counts(dice), counts([one, other]))
                        self.assertEqual(at_least(dice, 9), at_least([one, other], 9))
                        both = Fraction(*mean(dice[0])) + Fraction(*mean(dice[1]))
                        self.assertEqual(both, Fraction(*mean(one)) + Fraction(*mean(other)))

    def test_pairs_of_the_counts_are_alike(self):
        for one, other in self.small():
            with self.subTest((one, other)):
                told = pairs_of(counts([one, other]), len(one), len(other), min(one))
                self.assertEqual(told, alike(one, other))
                self.assertIn((tuple(sorted(one)), tuple(sorted(other))), told)

    def test_a_number_more_on_one_and_less_on_the_other(self):
        for one, other in self.small():
            by = min(min(other), 99 - max(one))
            with self.subTest((one, other, by)):
                moved = alike(with_more(one, by), with_more(other, -by))
                self.assertEqual(moved, [
                    (tuple(with_more(first, by)), tuple(with_more(second, -by))) for first, second in alike(one, other)
                ])


class Texts(unittest.TestCase):
    def test_a_die_read_from_its_text_is_asked_alike(self):
        for one, other in two_dice():
            with self.subTest((one, other)):
                read = [die_of(die_text(one)), die_of(die_text(other))]
                self.assertEqual(read, [one, other])
                self.assertEqual(counts(read), counts([one, other]))
                self.assertEqual(above(read[0], read[1]), above(one, other))


QUESTIONS = [
    (is_die, [D6]), (need_die, [[6, 5, 1]]), (mean, [[3, 1, 2, 2]]), (share, [21, 36]),
    (counts, [[[3, 1], [2, 0, 5]]]), (at_least, [[[3, 1], [2, 0, 5]], 4]),
    (above, [[9, 2, 4], [8, 1, 6]]), (beats, [[9, 2, 4], [8, 1, 6]]),
    (ring, [[[9, 2, 4], [8, 6, 1], [7, 5, 3]]]), (ring, [[[1], [2]]]), (ring, [ring_dice(8)[::-1]]),
    (ranks, [[[1], [3, 2], [0, 9]]]), (ranks, [[[9, 2, 4], [8, 6, 1], [7, 5, 3]]]),
    (pairs_of, [[(at, min(at, 14 - at) - 1) for at in range(2, 13)], 6, 6, 1]), (pairs_of, [[(4, 2)], 1, 2, 3]),
    (alike, [[6, 5, 4, 3, 2, 1], D6]), (alike, [[1, 0], [4, 2, 0]]),
    (die_text, [[6, 1, 5]]), (die_of, ["6 1 5"]),
]


class AskedTwice(unittest.TestCase):
    def test_with_the_first_answer_changed_and_others_asked_in_between(self):
        firsts = [deepcopy(ask(*deepcopy(handed))) for ask, handed in QUESTIONS]
        for (ask, handed), first in zip(QUESTIONS, firsts):
            told = ask(*deepcopy(handed))
            self.assertEqual(told, first)
            if isinstance(told, list):
                told.append(None)
                told[0] = "changed"
                told.reverse()
            for other, more in QUESTIONS:
                other(*deepcopy(more))
            with self.subTest(ask.__name__):
                again = ask(*deepcopy(handed))
                self.assertEqual(again, first)
                self.assertIs(type(again), type(first))

    def test_what_is_handed_in_is_as_it_was(self):
        for ask, handed in QUESTIONS:
            mine = deepcopy(handed)
            ask(*mine)
            with self.subTest(ask.__name__):
                self.assertEqual(repr(mine), repr(handed))

    def test_the_answer_is_nothing_that_was_handed_in(self):
        for ask, handed in QUESTIONS:
            mine = deepcopy(handed)
            told = ask(*mine)
            if isinstance(told, list):
                told.clear()
            with self.subTest(ask.__name__):
                self.assertEqual(repr(mine), repr(handed))

    def test_what_is_handed_in_may_be_changed_afterwards(self):
        for ask, handed in QUESTIONS:
            mine = deepcopy(handed)
            told = ask(*mine)
            before = deepcopy(told)
            for thing in mine:
                if isinstance(thing, list):
                    for part in thing:
                        if isinstance(part, list):
                            part.clear()
                    thing.clear()
            with self.subTest(ask.__name__):
                self.assertEqual(told, before)
                self.assertEqual(ask(*deepcopy(handed)), before)


if __name__ == "__main__":
    unittest.main()
