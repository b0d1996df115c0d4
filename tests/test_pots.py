import unittest

from thirstwise.errors import BadPot
from thirstwise.pots import Cactus, Pot

BAD_NAMES = ("", "abcdefghijklm", "Fern", "feRn", "fern1", "fe rn", " fern", "fern ", "fern\n", "fe-rn", "fe_rn",
             "`", "{", "f\u00e9rn", "\u00df", "\u00aa", "\u0430", None, 3, True, False, 1.5, ["f"], ("f",), b"fern", {})
NO_WHOLE_NUMBERS = (True, False, None, "3", "", 3.0, [3], (3,), {}, b"3")


class PotTest(unittest.TestCase):

    def test_good_pots_at_their_bounds(self):
        for name in ("a", "z", "fern", "abcdefghijkl", "mnopqrstuvwx", "zzzzzzzzzzzz"):
            for gap in (1, 2, 59, 60):
                with self.subTest(name=name, gap=gap):
                    pot = Pot(name, gap)
                    self.assertEqual((pot.name, pot.gap), (name, gap))

    def test_bad_names(self):
        for name in BAD_NAMES:
            with self.subTest(name=name):
                with self.assertRaises(BadPot):
                    Pot(name, 3)

    def test_bad_gaps(self):
        for gap in (0, -1, 61, 62, 10 ** 30, -10 ** 30) + NO_WHOLE_NUMBERS:
            with self.subTest(gap=gap):
                with self.assertRaises(BadPot):
                    Pot("fern", gap)

    def test_may_always_be_watered(self):
        pot = Pot("fern", 4)
        self.assertEqual([pot.may(since) for since in range(4)], [True] * 4)
        self.assertIs(Pot("fern", 1).may(0), True)

    def test_words(self):
        self.assertEqual(Pot("fern", 4).words(), ["pot", "fern", "4"])
        self.assertEqual(Pot("abcdefghijkl", 60).words(), ["pot", "abcdefghijkl", "60"])

    def test_words_are_the_askers_own(self):
        pot = Pot("fern", 4)
        pot.words().clear()
        self.assertEqual(pot.words(), ["pot", "fern", "4"])

    def test_with_gap(self):
        pot = Pot("fern", 4)
        for gap in (1, 4, 60):
            other = pot.with_gap(gap)
            self.assertIsNot(other, pot)
            self.assertNotIsInstance(other, Cactus)
            self.assertEqual(other.words(), ["pot", "fern", str(gap)])
        self.assertEqual(pot.words(), ["pot", "fern", "4"])

    def test_with_gap_refuses(self):
        for gap in (0, -1, 61) + NO_WHOLE_NUMBERS:
            with self.subTest(gap=gap):
                with self.assertRaises(BadPot):
                    Pot("fern", 4).with_gap(gap)

    def test_the_shortest_gap(self):
        self.assertEqual([Pot("fern", gap).shortest() for gap in (1, 4, 60)], [1, 1, 1])


class CactusTest(unittest.TestCase):

    def test_good_cacti_at_their_bounds(self):
        for gap, rest in ((1, 0), (2, 0), (2, 1), (7, 3), (60, 0), (60, 59)):
            with self.subTest(gap=gap, rest=rest):
                cactus = Cactus("agave", gap, rest)
                self.assertIsInstance(cactus, Pot)
                self.assertEqual((cactus.name, cactus.gap, cactus.rest), ("agave", gap, rest))

    def test_bad_rests(self):
        for gap, rest in ((1, 1), (1, -1), (2, 2), (7, 7), (7, 8), (7, -1), (60, 60), (60, 10 ** 30)):
            with self.subTest(gap=gap, rest=rest):
                with self.assertRaises(BadPot):
                    Cactus("agave", gap, rest)
        for rest in NO_WHOLE_NUMBERS:
            with self.subTest(rest=rest):
                with self.assertRaises(BadPot):
                    Cactus("agave", 7, rest)

    def test_bad_names_and_gaps(self):
        for name in BAD_NAMES:
            with self.subTest(name=name):
                with self.assertRaises(BadPot):
                    Cactus(name, 3, 1)
        for gap in (0, -1, 61, 62) + NO_WHOLE_NUMBERS:
            with self.subTest(gap=gap):
                with self.assertRaises(BadPot):
                    Cactus("agave", gap, 0)

    def test_may_be_watered_from_its_rest_on(self):
        cactus = Cactus("agave", 5, 3)
        self.assertEqual([cactus.may(since) for since in range(5)], [False, False, False, True, True])
        self.assertIs(Cactus("agave", 5, 0).may(0), True)
        self.assertIs(Cactus("agave", 5, 4).may(3), False)
        self.assertIs(Cactus("agave", 5, 4).may(4), True)

    def test_words(self):
        self.assertEqual(Cactus("agave", 5, 3).words(), ["cactus", "agave", "5", "3"])
        self.assertEqual(Cactus("agave", 60, 0).words(), ["cactus", "agave", "60", "0"])

    def test_words_are_the_askers_own(self):
        cactus = Cactus("agave", 5, 3)
        cactus.words().append("more")
        self.assertEqual(cactus.words(), ["cactus", "agave", "5", "3"])

    def test_with_gap_keeps_the_rest(self):
        cactus = Cactus("agave", 5, 3)
        for gap in (4, 5, 60):
            other = cactus.with_gap(gap)
            self.assertIsNot(other, cactus)
            self.assertIsInstance(other, Cactus)
            self.assertEqual(other.words(), ["cactus", "agave", str(gap), "3"])
        self.assertEqual(cactus.words(), ["cactus", "agave", "5", "3"])

    def test_with_gap_refuses(self):
        for gap in (0, 1, 3, -1, 61) + NO_WHOLE_NUMBERS:
            with self.subTest(gap=gap):
                with self.assertRaises(BadPot):
                    Cactus("agave", 5, 3).with_gap(gap)

    def test_the_shortest_gap_is_one_above_the_rest(self):
        self.assertEqual([Cactus("agave", 60, rest).shortest() for rest in (0, 1, 59)], [1, 2, 60])


if __name__ == "__main__":
    unittest.main()
