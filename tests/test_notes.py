import unittest
from copy import deepcopy
from itertools import product

from dicepairs import notes
from dicepairs.dice import is_die
from dicepairs.errors import BadDie, BadText
from dicepairs.notes import die_of, die_text
from tests.things import NO_DICE, Strange, deep, drawn_dice, edge_dice, holding_itself

NO_TEXTS = [
    None, True, False, 0, 1, -1, 10 ** 100, b"", b"1 2", [], [1, 2], ["1 2"], ["1", "2"], (), (1, 2), ("1 2",),
    {}, {"1 2": 1}, set(), {"1"}, frozenset(["1"]), range(3), iter("12"), Strange(), Strange, str, len, bytearray(b"1"),
    holding_itself(), deep(5000),
]

BAD_TEXTS = [
    # Blanks that are none too many.
    "", " ", "  ", " 1", "1 ", " 1 2", "1 2 ", "1  2", "1   2", "  1", "1  ", " 1 ", "1 2  3", " " * 8, "1 " * 8,
    # Other signs between, ahead and behind.
    "\t", "\n", "1\t2", "1\n2", "1\r\n2", "1\r2", "\t1", "1\t", "1\n", "\n1", "1 2\n", "1 \n2", "1\n 2", "1 2\r\n",
    "1 2\r", "1,2", "1, 2", "1;2", "1/2", "1-2", "1.2", "1_2", "1_0", "[1, 2]", "[1]", "(1)", "1|2", "1 , 2", "1 - 2",
    "'1'", '"1"',
    "1\x0b2", "1\x0c2", "1\x002", "\x001", "1\x00", "1 2\x00",
    # Noughts ahead of another figure.
    "00", "01", "07", "007", "000", "0 00", "00 0", "1 02", "010", "099", "0099", "1 2 03",
    # Signs and points.
    "+1", "-1", "-0", "+0", "- 1", "1+", "1-", "1.", ".1", "1.0", "0.5", "1e1", "1 -2", "1 +2", "--1", "1 2 .",
    ".", "-", "+",
    # Faces that are none.
    "100", "101", "999", "1000", "1 100", "100 1", "5 5 5 200", "9" * 100, "1" * 5000, "1" * 100000,
    # Nine and more faces.
    "1 2 3 4 5 6 7 8 9", "0 0 0 0 0 0 0 0 0", "1 " * 8 + "1", "1 " * 999 + "1", "1 " * 100000 + "1",
    # No figures.
    "a", "x", "one", "1 a", "a 1", "1a", "a1", "0x1", "0b1", "0o7", "I", "l", "O", "1 two 3", "None", "True", "False",
    "!", "~", "#1", "$", "*", "1*", "{1}", "\\", "1\\n2", "%", "%d", "{0}",
    # Figures and blanks beyond those of texts that are handed in.
    "\u0661", "1 \u0662", "\u00b2", "\uff11", "\u2460", "1\u00a02", "\u20281", "\ud800",
]


class Interface(unittest.TestCase):
    def test_functions_are_defined_in_this_file(self):
        for name in ["die_text", "die_of"]:
            with self.subTest(name):
                self.assertEqual(getattr(notes, name).__module__, "dicepairs.notes")


class DieText(unittest.TestCase):
    def test_ordinary(self):
        self.assertEqual(die_text([1, 2, 3, 4, 5, 6]), "1 2 3 4 5 6")
        self.assertEqual(die_text([10, 0, 7]), "10 0 7")
        self.assertEqual(die_text([5]), "5")

    def test_faces_as_they_stand(self):
        self.assertEqual(die_text([6, 1, 5, 1]), "6 1 5 1")
        self.assertEqual(die_text([99, 0, 98, 1]), "99 0 98 1")

    def test_each_face(self):
        for face in range(100):
            with self.subTest(face):
                self.assertEqual(die_text([face]), str(face))
                self.assertEqual(die_text([face, 0, face]), f"{face} 0 {face}")

    def test_edges(self):
        self.assertEqual(die_text([0]), "0")
        self.assertEqual(die_text([0] * 8), "0 0 0 0 0 0 0 0")
        self.assertEqual(die_text([99] * 8), "99 99 99 99 99 99 99 99")
        self.assertEqual(die_text([8, 7, 6, 5, 4, 3, 2, 1]), "8 7 6 5 4 3 2 1")

    def test_a_text(self):
        for die in edge_dice():
            self.assertIs(type(die_text(die)), str)

    def test_refused(self):
        for at, thing in enumerate(NO_DICE + ["1 2 3", (1, 2, 3), [1, 2, 100], [1] * 9, []]):
            with self.subTest(at), self.assertRaises(BadDie):
                die_text(thing)


class DieOf(unittest.TestCase):
    def test_ordinary(self):
        self.assertEqual(die_of("1 2 3 4 5 6"), [1, 2, 3, 4, 5, 6])
        self.assertEqual(die_of("10 0 7"), [10, 0, 7])
        self.assertEqual(die_of("5"), [5])

    def test_faces_as_they_stand(self):
        self.assertEqual(die_of("6 1 5 1"), [6, 1, 5, 1])
        self.assertEqual(die_of("99 0 98 1"), [99, 0, 98, 1])

    def test_each_face(self):
        for face in range(100):
            with self.subTest(face):
                self.assertEqual(die_of(str(face)), [face])
                self.assertEqual(die_of(f"{face} 0 {face}"), [face, 0, face])
        for face in range(100, 1200):
            with self.subTest(face), self.assertRaises(BadText):
                die_of(str(face))

    def test_one_to_eight_faces(self):
        for many in range(1, 9):
            self.assertEqual(die_of(" ".join(["42"] * many)), [42] * many)
        for many in range(9, 20):
            with self.subTest(many), self.assertRaises(BadText):
                die_of(" ".join(["42"] * many))

    def test_wrong_texts(self):
        for text in BAD_TEXTS:
            with self.subTest(text[:40]), self.assertRaises(BadText):
                die_of(text)

    def test_what_is_no_text(self):
        for at, thing in enumerate(NO_TEXTS):
            with self.subTest(at), self.assertRaises(BadText):
                die_of(thing)

    def test_no_other_text_of_few_signs_is_a_die(self):
        good = {str(face) for face in range(100)} | {f"{one} {other}" for one, other in product(range(100), repeat=2)}
        for many in range(5):
            for signs in product("0179 -.\t\n", repeat=many):
                text = "".join(signs)
                if text in good or text in ("0 0 0",):
                    self.assertEqual(die_text(die_of(text)), text)
                else:
                    with self.assertRaises(BadText):
                        die_of(text)

    def test_kinds(self):
        for text in ["0", "1 2 3", "99 99"]:
            told = die_of(text)
            self.assertIs(type(told), list)
            self.assertEqual([type(face) for face in told], [int] * len(told))
            self.assertIs(is_die(told), True)


class ThereAndBack(unittest.TestCase):
    def test_dice(self):
        rows = drawn_dice(2, 300, 1, 8, 99) + [[die] for die in edge_dice()]
        for (die,) in rows:
            with self.subTest(die):
                self.assertEqual(die_of(die_text(die)), die)

    def test_texts(self):
        for text in ["0", "9", "10", "99", "1 2 3", "3 2 1", "0 0", "50 5 50", "1 2 3 4 5 6 7 8"]:
            with self.subTest(text):
                self.assertEqual(die_text(die_of(text)), text)


class TheAskersOwn(unittest.TestCase):
    def test_dice_are_left_as_they_are(self):
        for die in edge_dice() + [[9, 3, 5, 3]]:
            before = list(die)
            die_text(die)
            self.assertEqual(die, before)
        for thing in [[5, 100, 1], [3, True], [2] * 9, [[4], 1]]:
            before = deepcopy(thing)
            with self.assertRaises(BadDie):
                die_text(thing)
            self.assertEqual(thing, before)

    def test_a_changed_answer_changes_no_later_one(self):
        first = die_of("3 1 2")
        first.append(7)
        first[0] = None
        self.assertEqual(die_of("4 4"), [4, 4])
        second = die_of("3 1 2")
        self.assertEqual(second, [3, 1, 2])
        second.clear()
        self.assertEqual(die_of("3 1 2"), [3, 1, 2])

    def test_a_later_question_changes_no_answer(self):
        first = die_of("3 1 2")
        die_of("5")
        self.assertIsNot(die_of("3 1 2"), first)
        self.assertEqual(first, [3, 1, 2])

    def test_a_die_changed_later_is_asked_anew(self):
        die = [3, 1]
        self.assertEqual(die_text(die), "3 1")
        die.append(0)
        self.assertEqual(die_text(die), "3 1 0")
        self.assertEqual(die_text([3, 1]), "3 1")


if __name__ == "__main__":
    unittest.main()
