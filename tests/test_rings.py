import unittest
from copy import deepcopy
from itertools import combinations, permutations
from random import Random

from dicepairs import rings
from dicepairs.errors import BadDice
from dicepairs.rings import ranks, ring
from tests.things import NO_DICE, NO_LISTS, balance, drawn_dice, edge_dice, level_dice, ring_dice

D6 = [1, 2, 3, 4, 5, 6]


def beaten_by(dice):
    """Return for each two places whether the die at the first one beats the one at the other one."""
    return [[balance(one, other) > 0 for other in dice] for one in dice]


def brute_ring(dice):
    """Return the told ring by a search through all rows of places, short ones first."""
    wins = beaten_by(dice)
    for length in range(3, len(dice) + 1):
        for row in permutations(range(len(dice)), length):
            if all(wins[row[at - 1]][row[at]] for at in range(length)):
                return list(row)
    return None


def brute_ranks(dice):
    """Return the least row of all places in which no die beats one that stands ahead of it."""
    wins = beaten_by(dice)
    for row in permutations(range(len(dice))):
        if not any(wins[later][ahead] for ahead, later in combinations(row, 2)):
            return list(row)
    return None


def drawn_rows():
    """Return rows of 1 to 8 drawn dice, of small numbers so that many are alike."""
    rows = []
    for many in range(1, 9):
        rows += drawn_dice(many, 40, many, 3, 3) + drawn_dice(20 + many, 40, many, 4, 6)
        rows += drawn_dice(40 + many, 20, many, 8, 99) + level_dice(60 + many, 60, many)
    return rows + rows_of_rings()


def rows_of_rings():
    """Return rows of 8 dice, like ones among them, whose shortest rings are of three to six places."""
    draw = Random(8)
    rows = []
    for many in (3, 4, 5, 6) * 8:
        row = ring_dice(many) + [draw.choice(ring_dice(many)) for _ in range(8 - many)]
        draw.shuffle(row)
        rows.append(row)
    return rows


def bad_dice():
    """Return what is no list of 1 to 8 dice."""
    rows = list(NO_LISTS)
    rows += [[], [D6] * 9, [D6] * 10, [[1]] * 1000]
    rows += [(D6, D6), (D6,), (tuple(D6), D6), {0: D6}, {"dice": [D6]}]
    rows += [[1, 2, 3], [1], [0, [1]], [D6, tuple(D6)]]
    for thing in NO_DICE:
        rows += [[thing], [thing, D6], [D6, thing], [D6, D6, thing, D6], [D6] * 7 + [thing]]
    return rows


class Interface(unittest.TestCase):
    def test_functions_are_defined_in_this_file(self):
        for name in ["ring", "ranks"]:
            with self.subTest(name):
                self.assertEqual(getattr(rings, name).__module__, "dicepairs.rings")


class Ring(unittest.TestCase):
    def test_three(self):
        a, b, c = [2, 4, 9], [1, 6, 8], [3, 5, 7]
        for dice, told in [([a, b, c], [0, 1, 2]), ([b, c, a], [0, 1, 2]), ([c, a, b], [0, 1, 2]),
                           ([a, c, b], [0, 2, 1]), ([c, b, a], [0, 2, 1]), ([b, a, c], [0, 2, 1])]:
            with self.subTest(dice):
                self.assertEqual(ring(dice), told)
                self.assertIsNone(ranks(dice))

    def test_three_to_eight_round_about(self):
        for many in range(3, 9):
            with self.subTest(many):
                self.assertEqual(ring(ring_dice(many)), list(range(many)))
                self.assertEqual(ring(ring_dice(many)[::-1]), [0] + list(range(many - 1, 0, -1)))
                self.assertIsNone(ranks(ring_dice(many)))

    def test_each_order_of_three_four_and_five_and_some_of_eight(self):
        orders = [order for many in (3, 4, 5) for order in permutations(range(many))]
        orders += [order for order in list(permutations(range(8)))[::977]]
        for order in orders:
            with self.subTest(order):
                dice = ring_dice(len(order))
                places = [order.index(at) for at in range(len(order))]
                start = places.index(0)
                self.assertEqual(ring([dice[at] for at in order]), places[start:] + places[:start])

    def test_others_between(self):
        a, b, c = [2, 4, 9], [1, 6, 8], [3, 5, 7]
        self.assertEqual(ring([[99], a, [0], b, [0, 99], c, [99], [0]]), [1, 3, 5])
        self.assertEqual(ring([[0], c, [99], b, [0, 99], a]), [1, 5, 3])
        four = ring_dice(4)
        self.assertEqual(ring([[99], four[2], [0], four[0], four[1], [99], four[3]]), [1, 6, 3, 4])
        five = ring_dice(5)
        self.assertEqual(ring([[0, 99], five[4], five[0], [77], five[3], five[1], [0], five[2]]), [1, 2, 5, 7, 4])

    def test_several_rings_of_one_length(self):
        low, high = ring_dice(3), ring_dice(3, 50)
        self.assertEqual(ring(low + high), [0, 1, 2])
        self.assertEqual(ring(high + low), [0, 1, 2])
        self.assertEqual(ring([high[2], low[0], high[1], low[1], high[0], low[2]]), [0, 4, 2])
        self.assertEqual(ring([[99], low[0], high[0], low[1], low[2], high[1], high[2]]), [1, 3, 4])
        # From one and the same least place: the lesser next place tells, then the one after it.
        self.assertEqual(ring([low[0], low[1], low[1], low[2], low[2]]), [0, 1, 3])
        self.assertEqual(ring([low[0], low[2], low[2], low[1], low[1]]), [0, 3, 1])

    def test_a_shorter_ring_beside_a_longer_one(self):
        self.assertEqual(ring(ring_dice(5) + ring_dice(3, 50)), [5, 6, 7])
        self.assertEqual(ring(ring_dice(5, 50) + ring_dice(3)), [5, 6, 7])
        self.assertEqual(ring(ring_dice(4) + ring_dice(3, 50)), [4, 5, 6])
        three, four = ring_dice(3), ring_dice(4, 50)
        self.assertEqual(ring([four[0], three[2], four[1], three[1], four[2], three[0], four[3]]), [1, 5, 3])

    def test_like_dice_at_several_places(self):
        a, b, c = [2, 4, 9], [1, 6, 8], [3, 5, 7]
        self.assertEqual(ring([a, a, b, b, c, c]), [0, 2, 4])
        self.assertEqual(ring([c, a, a, b, c]), [0, 1, 3])
        self.assertIsNone(ring([a] * 8))
        self.assertIsNone(ring([a, b] * 4))
        self.assertIsNone(ring([a, c] * 4))

    def test_none(self):
        for die in edge_dice():
            with self.subTest(die):
                self.assertIsNone(ring([die]))
                self.assertIsNone(ring([die, [50]]))
        # Two dice of which neither beats the other one, and rows in order.
        self.assertIsNone(ring([[2], [1, 3], [2]]))
        self.assertIsNone(ring([[at] for at in range(8)]))
        self.assertIsNone(ring([[at] for at in range(8, 0, -1)]))
        self.assertIsNone(ring(ring_dice(8)[:7]))

    def test_like_a_search_through_all_rows_of_places(self):
        for dice in drawn_rows():
            if len(dice) < 8 or ring(dice) is not None:
                with self.subTest(dice):
                    self.assertEqual(ring(dice), brute_ring(dice))

    def test_kinds(self):
        for dice in drawn_rows():
            for told in [ring(dice), ranks(dice)]:
                if told is not None:
                    self.assertIs(type(told), list)
                    self.assertEqual([type(place) for place in told], [int] * len(told))


class Ranks(unittest.TestCase):
    def test_ordinary(self):
        self.assertEqual(ranks([[1], [2], [3]]), [2, 1, 0])
        self.assertEqual(ranks([[3], [2], [1]]), [0, 1, 2])
        self.assertEqual(ranks([D6, [6], [1], D6]), [1, 0, 3, 2])

    def test_one_and_eight(self):
        for die in edge_dice():
            with self.subTest(die):
                self.assertEqual(ranks([die]), [0])
                self.assertEqual(ranks([die] * 8), list(range(8)))
        self.assertEqual(ranks([[at] for at in range(8)]), list(range(7, -1, -1)))
        self.assertEqual(ranks([[4], [9], [1], [7], [0], [3], [8], [2]]), [1, 6, 3, 0, 5, 7, 2, 4])

    def test_the_least_place_left_comes_first(self):
        # Neither beats the die 0, 9: it stands where its place says.
        self.assertEqual(ranks([[1], [0, 9], [2]]), [1, 2, 0])
        # A place that has become free stands ahead of greater ones that were free before.
        self.assertEqual(ranks([[1], [2], [0, 9], [0, 9]]), [1, 0, 2, 3])
        self.assertEqual(ranks([[0, 9], [1], [2], [0, 9], [3]]), [0, 3, 4, 2, 1])

    def test_where_there_is_a_ring_there_are_none(self):
        a, b, c = [2, 4, 9], [1, 6, 8], [3, 5, 7]
        for dice in [[a, b, c], [[99], a, b, c], [a, b, c, [0]], [[99], a, [0, 99], b, [0], c]]:
            with self.subTest(dice):
                self.assertIsNone(ranks(dice))

    def test_a_ring_without_one_of_its_dice(self):
        for many in range(3, 9):
            for gone in range(many):
                dice = ring_dice(many)
                del dice[gone]
                with self.subTest((many, gone)):
                    self.assertIsNone(ring(dice))
                    self.assertEqual(ranks(dice), brute_ranks(dice))

    def test_like_a_search_through_all_orders(self):
        for dice in drawn_rows():
            if len(dice) < 8 or ranks(dice) is not None:
                with self.subTest(dice):
                    self.assertEqual(ranks(dice), brute_ranks(dice))


class RingOrRanks(unittest.TestCase):
    def test_just_one_of_both(self):
        seen = {True: 0, False: 0}
        for dice in drawn_rows():
            with self.subTest(dice):
                self.assertNotEqual(ring(dice) is None, ranks(dice) is None)
                seen[ring(dice) is None] += 1
        self.assertGreater(min(seen.values()), 100)

    def test_a_ring_die_by_die(self):
        for dice in drawn_rows() + [ring_dice(many) for many in range(3, 9)]:
            told = ring(dice)
            if told is not None:
                with self.subTest(dice):
                    self.assertGreaterEqual(len(told), 3)
                    self.assertEqual(len(set(told)), len(told))
                    self.assertEqual(told[0], min(told))
                    for at, place in enumerate(told):
                        self.assertGreater(balance(dice[told[at - 1]], dice[place]), 0)

    def test_ranks_by_all_pairs_of_places(self):
        for dice in drawn_rows():
            told = ranks(dice)
            if told is not None:
                with self.subTest(dice):
                    self.assertEqual(sorted(told), list(range(len(dice))))
                    for ahead, later in combinations(told, 2):
                        self.assertLessEqual(balance(dice[later], dice[ahead]), 0)


class Refused(unittest.TestCase):
    def test_what_is_no_list_of_1_to_8_dice(self):
        for ask in [ring, ranks]:
            for at, thing in enumerate(bad_dice()):
                with self.subTest((ask.__name__, at)), self.assertRaises(BadDice):
                    ask(thing)

    def test_one_to_eight_dice(self):
        for many in range(12):
            with self.subTest(many):
                if 1 <= many <= 8:
                    self.assertIsNone(ring([[2]] * many))
                    self.assertEqual(ranks([[2]] * many), list(range(many)))
                else:
                    for ask in [ring, ranks]:
                        with self.assertRaises(BadDice):
                            ask([[2]] * many)


class TheAskersOwn(unittest.TestCase):
    def test_dice_are_left_as_they_are(self):
        for ask in [ring, ranks]:
            for mine in drawn_rows()[::7] + [[[9, 1], [5, 5, 2]], [edge_dice()[-1], [3, 1, 2]]]:
                before = deepcopy(mine)
                ask(mine)
                self.assertEqual(mine, before)

    def test_refused_dice_are_left_as_they_are(self):
        mine = [[3, 1, 2], [100, 5], [9, 8]]
        for ask in [ring, ranks]:
            with self.assertRaises(BadDice):
                ask(mine)
            self.assertEqual(mine, [[3, 1, 2], [100, 5], [9, 8]])

    def test_a_changed_answer_changes_no_later_one(self):
        for ask, mine, told in [(ring, ring_dice(4), [0, 1, 2, 3]), (ranks, [[1], [2], [3]], [2, 1, 0])]:
            first = ask(mine)
            first.append(99)
            first[0] = None
            self.assertEqual(ask([[5], [4]]), None if ask == ring else [0, 1])
            second = ask(mine)
            self.assertEqual(second, told)
            second.clear()
            self.assertEqual(ask(mine), told)

    def test_a_later_question_changes_no_answer(self):
        first, second = ring(ring_dice(3)), ranks([[1], [2], [3]])
        ring(ring_dice(5)[::-1])
        ranks([[1], [2]])
        self.assertEqual(first, [0, 1, 2])
        self.assertEqual(second, [2, 1, 0])

    def test_dice_changed_later_are_asked_anew(self):
        dice = ring_dice(3)
        self.assertEqual(ring(dice), [0, 1, 2])
        self.assertIsNone(ranks(dice))
        dice[1][:] = [99]
        self.assertIsNone(ring(dice))
        self.assertEqual(ranks(dice), [1, 2, 0])
        dice.pop()
        self.assertEqual(ranks(dice), [1, 0])


if __name__ == "__main__":
    unittest.main()
