import unittest

from oracle import NO_NAMES, expected_days, small_gardens, told
from thirstwise.errors import NoPot
from thirstwise.gardens import Garden, with_cans, with_gap
from thirstwise.lives import days_of
from thirstwise.pots import Cactus, Pot
from thirstwise.wants import fewest_cans, least_gap, load


def lasts(garden):
    return expected_days(garden)[garden.fresh()] is None


def first_that_lasts(gardens):
    # The gardens stand by a number; all below the first one that lasts are tried.
    for number, garden in gardens:
        if lasts(garden):
            return number
    return None


class FewestCansTest(unittest.TestCase):

    def test_some(self):
        self.assertEqual(fewest_cans(Garden([Pot("fern", 2), Pot("moss", 2)])), 1)
        self.assertEqual(fewest_cans(Garden([Pot("fern", 2), Pot("moss", 2), Pot("sage", 2)])), 2)
        self.assertEqual(fewest_cans(Garden([Pot(name, 4) for name in "abcde"])), 2)

    def test_as_many_as_pots(self):
        self.assertEqual(fewest_cans(Garden([Pot("fern", 1)])), 1)
        self.assertEqual(fewest_cans(Garden([Pot("fern", 1), Pot("moss", 1), Pot("sage", 1)])), 3)
        self.assertEqual(fewest_cans(Garden([Pot(name, 1) for name in "abcdefgh"])), 8)
        # Both must be watered on the same day, the only one on which somebody comes.
        self.assertEqual(fewest_cans(Garden([Pot("fern", 2), Pot("moss", 3)], 1, 2, 1)), 2)

    def test_none(self):
        self.assertIsNone(fewest_cans(Garden([Pot("fern", 1)], 8, 2, 2)))
        self.assertIsNone(fewest_cans(Garden([Pot("fern", 60)], 8, 1, 1)))
        self.assertIsNone(fewest_cans(Garden([Cactus("agave", 2, 1)], 8, 3, 1)))

    def test_never_without_cans(self):
        # Each pot is dry some day without water, so 0 is never enough.
        for garden in (Garden([Pot("fern", 60)], 0), Garden([Cactus("agave", 60, 59)], 8, 14)):
            self.assertEqual(days_of(with_cans(garden, 0)), 59)
            self.assertEqual(fewest_cans(garden), 1)

    def test_the_gardens_own_cans_do_not_count(self):
        for cans in range(9):
            garden = Garden([Pot("fern", 2), Pot("moss", 2), Pot("sage", 2)], cans)
            self.assertEqual(fewest_cans(garden), 2)
            self.assertEqual(garden.cans, cans)

    def test_from_the_fresh_state_on(self):
        # From the fresh state on the days fall wrong, from another one it would go on for ever.
        garden = Garden([Cactus("agave", 2, 1)], 1, 2, 2)
        self.assertIsNone(days_of(garden, (0, (1,))))
        self.assertIsNone(fewest_cans(garden))
        self.assertEqual(fewest_cans(Garden([Cactus("agave", 2, 1)], 1, 2, 1)), 1)

    def test_many_gardens(self):
        for garden in small_gardens():
            expected = first_that_lasts([(cans, with_cans(garden, cans)) for cans in range(len(garden.pots) + 1)])
            self.assertEqual(fewest_cans(garden), expected, told(garden))


class LeastGapTest(unittest.TestCase):

    def test_a_pot(self):
        self.assertEqual(least_gap(Garden([Pot("fern", 60)]), "fern"), 1)
        self.assertEqual(least_gap(Garden([Pot("fern", 60), Pot("moss", 2)]), "fern"), 2)
        self.assertEqual(least_gap(Garden([Pot("fern", 9), Pot("moss", 3)]), "fern"), 2)
        self.assertEqual(least_gap(Garden([Pot("fern", 9), Pot("moss", 3)]), "moss"), 2)

    def test_its_own_gap(self):
        garden = Garden([Pot("fern", 2), Pot("moss", 2)])
        self.assertEqual((least_gap(garden, "fern"), least_gap(garden, "moss")), (2, 2))
        self.assertEqual(least_gap(Garden([Pot("fern", 1)]), "fern"), 1)
        self.assertEqual(least_gap(Garden([Pot("fern", 7)], 1, 7, 126), "fern"), 7)

    def test_a_cactus_from_one_above_its_rest_on(self):
        self.assertEqual(least_gap(Garden([Cactus("agave", 5, 2)]), "agave"), 3)
        self.assertEqual(least_gap(Garden([Cactus("agave", 5, 0)]), "agave"), 1)
        self.assertEqual(least_gap(Garden([Cactus("agave", 5, 4)]), "agave"), 5)
        # Every third day, but nobody comes on two days of four: so some fourth day too.
        self.assertEqual(least_gap(Garden([Cactus("agave", 9, 2)], 1, 4, 10), "agave"), 4)

    def test_none(self):
        for garden in (Garden([Pot("fern", 2), Pot("moss", 2)], 1, 2, 1), Garden([Pot("fern", 2), Pot("moss", 2)], 0)):
            self.assertIsNone(least_gap(garden, "fern"))
            self.assertIsNone(least_gap(garden, "moss"))
        self.assertIsNone(least_gap(Garden([Cactus("agave", 2, 1)], 1, 3, 1), "agave"))
        # The other one is dry, whatever this one's gap is.
        self.assertIsNone(least_gap(Garden([Pot("fern", 9), Pot("moss", 1)], 1, 2, 1), "fern"))

    def test_many_gardens(self):
        for garden in small_gardens():
            for pot in garden.pots:
                least = pot.rest + 1 if isinstance(pot, Cactus) else 1
                gaps = range(least, pot.gap + 1)
                expected = first_that_lasts([(gap, with_gap(garden, pot.name, gap)) for gap in gaps])
                self.assertEqual(least_gap(garden, pot.name), expected, (told(garden), pot.name))

    def test_no_pot(self):
        garden = Garden([Pot("fern", 3), Cactus("agave", 5, 2)], 0)
        for name in NO_NAMES:
            with self.subTest(name=name):
                with self.assertRaises(NoPot):
                    least_gap(garden, name)


def expected_load(garden):
    # Day by day, till the week and all gaps end together.
    needed, allowed, days = 0, 0, 0
    while days == 0 or days % garden.week != 0 or any(days % pot.gap != 0 for pot in garden.pots):
        if garden.closed // 2 ** (days % garden.week) % 2 == 0:
            allowed += garden.cans
        days += 1
        needed += sum(days % pot.gap == 0 for pot in garden.pots)
    return (needed, allowed, days)


class LoadTest(unittest.TestCase):

    def test_one_pot(self):
        self.assertEqual(load(Garden([Pot("fern", 3)])), (1, 3, 3))
        self.assertEqual(load(Garden([Pot("fern", 1)], 0)), (1, 0, 1))
        self.assertEqual(load(Garden([Pot("fern", 1)], 8)), (1, 8, 1))

    def test_several_gaps(self):
        self.assertEqual(load(Garden([Pot("fern", 4), Pot("moss", 6)], 2)), (5, 24, 12))
        self.assertEqual(load(Garden([Pot("fern", 4), Pot("moss", 6), Pot("sage", 4)], 1, 9)), (24, 36, 36))
        self.assertEqual(load(Garden([Cactus("agave", 6, 5), Pot("fern", 3)], 3)), (3, 18, 6))

    def test_closed_days(self):
        self.assertEqual(load(Garden([Pot("fern", 3)], 2, 7, 96)), (7, 30, 21))
        self.assertEqual(load(Garden([Pot("fern", 2)], 5, 2, 3)), (1, 0, 2))
        self.assertEqual(load(Garden([Pot("fern", 5)], 1, 10, 1)), (2, 9, 10))

    def test_the_week_alone(self):
        self.assertEqual(load(Garden([Pot("fern", 1)], 1, 14, 1)), (14, 13, 14))

    def test_many_days(self):
        garden = Garden([Pot("fern", 59), Pot("moss", 23), Pot("sage", 1)], 8, 14, 1)
        self.assertEqual(garden.size(), 18998)
        self.assertEqual(load(garden), (23 * 14 + 59 * 14 + 18998, 8 * 13 * 59 * 23, 18998))

    def test_many_gardens(self):
        gardens = [Garden([Pot("fern", one), Cactus("agave", other, 0)], cans, week, closed)
                   for one in (1, 2, 6, 10) for other in (1, 4, 9, 15) for cans in (0, 1, 3)
                   for week, closed in ((1, 0), (1, 1), (4, 5), (6, 33), (14, 8193))]
        for garden in gardens + small_gardens():
            self.assertEqual(load(garden), expected_load(garden), told(garden))

    def test_kinds(self):
        found = load(Garden([Pot("fern", 3)]))
        self.assertIs(type(found), tuple)
        self.assertEqual([type(number) for number in found], [int, int, int])


class KeepingTest(unittest.TestCase):

    def test_the_garden_stays_as_it_was(self):
        garden = Garden([Pot("fern", 3), Cactus("agave", 5, 2)], 1, 2, 1)
        before = told(garden)
        fewest_cans(garden)
        least_gap(garden, "fern")
        least_gap(garden, "agave")
        load(garden)
        self.assertEqual(told(garden), before)


if __name__ == "__main__":
    unittest.main()
