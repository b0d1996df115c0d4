import unittest

from oracle import expected_choices, told
from thirstwise.choices import choices
from thirstwise.errors import NoState
from thirstwise.gardens import Garden
from thirstwise.pots import Cactus, Pot


class ChoicesTest(unittest.TestCase):

    def test_pots_on_an_open_day(self):
        garden = Garden([Pot("fern", 3), Pot("moss", 3)], 1, 2)
        self.assertEqual(choices(garden, (0, (0, 0))), [(0, (1, (1, 1))), (1, (1, (0, 1))), (2, (1, (1, 0)))])
        self.assertEqual(choices(garden, (1, (1, 1))), [(0, (0, (2, 2))), (1, (0, (0, 2))), (2, (0, (2, 0)))])
        self.assertEqual(choices(garden, (1, (0, 2))), [(2, (0, (1, 0)))])

    def test_as_many_pots_as_cans(self):
        garden = Garden([Pot("fern", 3), Pot("moss", 3)], 2)
        self.assertEqual(choices(garden, (0, (1, 0))),
                         [(0, (0, (2, 1))), (1, (0, (0, 1))), (2, (0, (2, 0))), (3, (0, (0, 0)))])
        self.assertEqual(choices(garden, (0, (2, 2))), [(3, (0, (0, 0)))])

    def test_more_cans_than_pots(self):
        self.assertEqual(choices(Garden([Pot("fern", 2)], 8), (0, (0,))), [(0, (0, (1,))), (1, (0, (0,)))])
        self.assertEqual(choices(Garden([Pot("fern", 1), Pot("moss", 2)], 8), (0, (0, 1))), [(3, (0, (0, 0)))])

    def test_no_cans(self):
        garden = Garden([Pot("fern", 3), Pot("moss", 2)], 0)
        self.assertEqual(choices(garden, (0, (0, 0))), [(0, (0, (1, 1)))])
        self.assertEqual(choices(garden, (0, (1, 1))), [])

    def test_a_cactus_is_watered_only_when_it_rested(self):
        garden = Garden([Cactus("agave", 4, 2)])
        self.assertEqual(choices(garden, (0, (0,))), [(0, (0, (1,)))])
        self.assertEqual(choices(garden, (0, (1,))), [(0, (0, (2,)))])
        self.assertEqual(choices(garden, (0, (2,))), [(0, (0, (3,))), (1, (0, (0,)))])
        self.assertEqual(choices(garden, (0, (3,))), [(1, (0, (0,)))])

    def test_a_cactus_beside_a_pot(self):
        garden = Garden([Cactus("agave", 3, 1), Pot("fern", 2)], 2)
        self.assertEqual(choices(garden, (0, (0, 0))), [(0, (0, (1, 1))), (2, (0, (1, 0)))])
        self.assertEqual(choices(garden, (0, (1, 1))), [(2, (0, (2, 0))), (3, (0, (0, 0)))])

    def test_a_closed_day(self):
        garden = Garden([Pot("fern", 2), Cactus("agave", 3, 0)], 2, 3, 5)
        self.assertEqual(choices(garden, (0, (0, 0))), [(0, (1, (1, 1)))])
        self.assertEqual(choices(garden, (2, (0, 1))), [(0, (0, (1, 2)))])
        self.assertEqual(choices(garden, (1, (1, 1))), [(1, (2, (0, 2))), (3, (2, (0, 0)))])

    def test_no_choice_leaves_all_well(self):
        self.assertEqual(choices(Garden([Pot("fern", 2), Pot("moss", 2)], 1), (0, (1, 1))), [])
        self.assertEqual(choices(Garden([Pot("fern", 2)], 8, 1, 1), (0, (1,))), [])
        self.assertEqual(choices(Garden([Pot("fern", 1)], 0), (0, (0,))), [])

    def test_the_last_day_of_the_longest_week(self):
        garden = Garden([Pot("fern", 2)], 1, 14, 2 ** 13)
        self.assertEqual(choices(garden, (12, (0,))), [(0, (13, (1,))), (1, (13, (0,)))])
        self.assertEqual(choices(garden, (13, (0,))), [(0, (0, (1,)))])
        self.assertEqual(choices(garden, (13, (1,))), [])

    def test_eight_pots(self):
        pots = [Pot(name, 2) for name in "abcdefgh"]
        found = choices(Garden(pots, 8), (0, (0,) * 8))
        self.assertEqual([choice for choice, behind in found], list(range(256)))
        found = choices(Garden(pots, 1), (0, (0,) * 8))
        self.assertEqual([choice for choice, behind in found], [0, 1, 2, 4, 8, 16, 32, 64, 128])

    def test_every_state_of_many_gardens(self):
        mixed = [Pot("fern", 3), Cactus("agave", 4, 2), Pot("moss", 1), Cactus("cereus", 2, 1)]
        rows = [Cactus("agave", 3, 2), Pot("fern", 2), Cactus("cereus", 3, 0), Pot("moss", 3), Pot("basil", 2)]
        for pots in (mixed[:1], mixed[1:2], mixed[2:3], mixed[:2], mixed, rows):
            for cans in (0, 1, 2, 3, 5, 8):
                for week, closed in ((1, 0), (1, 1), (3, 0), (3, 2), (3, 5), (3, 7)):
                    garden = Garden(pots, cans, week, closed)
                    for number in range(garden.size()):
                        state = garden.state(number)
                        self.assertEqual(choices(garden, state), expected_choices(garden, state),
                                         (told(garden), state))

    def test_kinds_of_what_is_given_back(self):
        found = choices(Garden([Pot("fern", 2)]), (0, (0,)))
        self.assertIs(type(found), list)
        for pair in found:
            self.assertIs(type(pair), tuple)
            self.assertIs(type(pair[0]), int)
            self.assertIs(type(pair[1]), tuple)
            self.assertIs(type(pair[1][1]), tuple)

    def test_no_state(self):
        garden = Garden([Pot("fern", 3), Cactus("agave", 2, 1)], 1, 2)
        for state in (None, 0, True, "ab", (), (0,), [0, (0, 0)], (0, [0, 0]), (0, 0), (2, (0, 0)), (-1, (0, 0)),
                      (True, (0, 0)), (0, (0,)), (0, (0, 0, 0)), (0, (3, 0)), (0, (0, 2)), (0, (-1, 0)),
                      (0, (0, False)), (0, (0, 0), 0), (0, (0, None)), (0.0, (0, 0))):
            with self.subTest(state=state):
                with self.assertRaises(NoState):
                    choices(garden, state)


if __name__ == "__main__":
    unittest.main()
