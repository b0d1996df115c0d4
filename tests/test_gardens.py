import unittest
from itertools import product

from oracle import told
from thirstwise.choices import choices
from thirstwise.errors import BadPot, NoPot, NoState, TooMany
from thirstwise.gardens import Garden, joined, with_cans, with_gap
from thirstwise.pots import Cactus, Pot

NO_WHOLE_NUMBERS = (True, False, None, "1", "", 1.0, [1], (1,), {}, b"1")


def pots_of(gaps):
    return [Pot("abcdefghijklmnopqrstuvwxyz"[k], gap) for k, gap in enumerate(gaps)]


def answers(garden):
    states = [garden.state(number) for number in range(garden.size())]
    return (told(garden), garden.fresh(), states, [choices(garden, state) for state in states])


class MakingTest(unittest.TestCase):

    def test_values_and_defaults(self):
        garden = Garden([Pot("fern", 3), Cactus("agave", 5, 2)], 2, 7, 65)
        self.assertEqual(told(garden), ([["pot", "fern", "3"], ["cactus", "agave", "5", "2"]], 2, 7, 65))
        self.assertIsInstance(garden.pots, list)
        self.assertIsInstance(garden.pots[0], Pot)
        self.assertNotIsInstance(garden.pots[0], Cactus)
        self.assertIsInstance(garden.pots[1], Cactus)
        self.assertEqual(told(Garden([Pot("fern", 3)])), ([["pot", "fern", "3"]], 1, 1, 0))

    def test_arguments_by_name(self):
        garden = Garden(pots=[Pot("fern", 3)], cans=2, week=3, closed=4)
        self.assertEqual(told(garden), ([["pot", "fern", "3"]], 2, 3, 4))

    def test_pots_keep_their_order(self):
        names = ["zinnia", "aloe", "moss", "basil"]
        self.assertEqual([pot.name for pot in Garden([Pot(name, 2) for name in names]).pots], names)

    def test_bounds_that_are_allowed(self):
        for count in (1, 8):
            self.assertEqual(len(Garden(pots_of([2] * count)).pots), count)
        for cans in (0, 1, 8):
            self.assertEqual(Garden(pots_of([2]), cans).cans, cans)
        for week, closed in ((1, 0), (1, 1), (2, 3), (7, 64), (7, 127), (14, 0), (14, 2 ** 14 - 1)):
            garden = Garden(pots_of([2]), 1, week, closed)
            self.assertEqual((garden.week, garden.closed), (week, closed))

    def test_no_list_of_pots(self):
        fern = Pot("fern", 3)
        wrong = (None, 3, True, "fern", fern, (fern,), {"fern": fern}, {fern}, [None], ["fern"], [3], [True],
                 [fern, None], [None, fern], [[fern]], [Pot], [("fern", 3)], iter([fern]))
        for pots in wrong:
            with self.subTest(pots=pots):
                with self.assertRaises(BadPot):
                    Garden(pots)

    def test_a_pot_spoilt_by_the_asker_is_no_pot(self):
        for value, spoilt in (("gap", 0), ("gap", 61), ("gap", 2), ("name", "Agave"), ("rest", 5), ("rest", -1)):
            with self.subTest(value=value, spoilt=spoilt):
                cactus = Cactus("agave", 5, 2)
                setattr(cactus, value, spoilt)
                with self.assertRaises(BadPot):
                    Garden([cactus])

    def test_no_pot_or_too_many(self):
        for count in (0, 9, 10, 26):
            with self.subTest(count=count):
                with self.assertRaises(TooMany):
                    Garden(pots_of([1] * count))

    def test_cans_that_are_none(self):
        for cans in (-1, 9, 10 ** 30) + NO_WHOLE_NUMBERS:
            with self.subTest(cans=cans):
                with self.assertRaises(TooMany):
                    Garden(pots_of([2]), cans)

    def test_weeks_that_are_none(self):
        for week in (0, -1, 15, 10 ** 30) + NO_WHOLE_NUMBERS:
            with self.subTest(week=week):
                with self.assertRaises(TooMany):
                    Garden(pots_of([2]), 1, week)

    def test_closed_days_that_are_none(self):
        for week, closed in ((1, 2), (1, 3), (2, 4), (7, 128), (7, -1), (14, 2 ** 14), (14, 10 ** 30)):
            with self.subTest(week=week, closed=closed):
                with self.assertRaises(TooMany):
                    Garden(pots_of([2]), 1, week, closed)
        for closed in NO_WHOLE_NUMBERS:
            with self.subTest(closed=closed):
                with self.assertRaises(TooMany):
                    Garden(pots_of([2]), 1, 7, closed)

    def test_a_name_twice(self):
        fern = Pot("fern", 3)
        for pots in ([fern, fern], [fern, Pot("moss", 2), Pot("fern", 4)], [fern, Cactus("fern", 3, 1)]):
            with self.subTest(pots=pots):
                with self.assertRaises(BadPot):
                    Garden(pots)

    def test_too_many_states(self):
        for gaps, week in (((50, 40, 10), 1), ((50, 20), 10), ((20, 10, 10), 10), ((60, 33, 10), 1)):
            with self.subTest(gaps=gaps, week=week):
                self.assertLessEqual(Garden(pots_of(gaps), 1, week).size(), 20000)
        for gaps, week in (((59, 20, 17), 1), ((59, 57, 6), 1), ((60, 56, 6), 1), ((50, 20, 2), 11), ((60,) * 8, 14)):
            with self.subTest(gaps=gaps, week=week):
                with self.assertRaises(TooMany):
                    Garden(pots_of(gaps), 1, week)

    def test_just_beyond_the_most_states(self):
        # 20007 is the first count above 20000 that gaps and a week can make.
        self.assertEqual(Garden(pots_of((50, 40, 10))).size(), 20000)
        self.assertEqual(57 * 39 * 9, 20007)
        with self.assertRaises(TooMany):
            Garden(pots_of((57, 39, 9)))
        with self.assertRaises(TooMany):
            Garden(pots_of((57, 39)), 1, 9)


class TurnTest(unittest.TestCase):

    def test_no_list_of_pots_comes_first(self):
        for pots in ((), None, [None] * 9, pots_of([1] * 9) + [None], [Pot("fern", 60)] * 8 + [3]):
            with self.subTest(pots=pots):
                with self.assertRaises(BadPot):
                    Garden(pots, 9, 15, -1)

    def test_counts_come_ahead_of_a_name_twice(self):
        twice = [Pot("fern", 3), Pot("fern", 3)]
        for pots, cans, week, closed in (([Pot("fern", 1)] * 9, 1, 1, 0), (twice, 9, 1, 0), (twice, True, 1, 0),
                                         (twice, 1, 0, 0), (twice, 1, 15, 0), (twice, 1, 1, 2), (twice, 1, 1, False)):
            with self.subTest(pots=len(pots), cans=cans, week=week, closed=closed):
                with self.assertRaises(TooMany):
                    Garden(pots, cans, week, closed)

    def test_a_name_twice_comes_ahead_of_too_many_states(self):
        with self.assertRaises(BadPot):
            Garden([Pot("fern", 60), Pot("moss", 60), Pot("fern", 60)])


class KeepingTest(unittest.TestCase):

    def setUp(self):
        self.fern = Pot("fern", 3)
        self.agave = Cactus("agave", 4, 2)
        self.pots = [self.fern, self.agave]
        self.garden = Garden(self.pots, 1, 2, 2)
        self.before = answers(self.garden)

    def test_handed_in_is_not_changed(self):
        self.assertEqual(len(self.pots), 2)
        self.assertIs(self.pots[0], self.fern)
        self.assertIs(self.pots[1], self.agave)
        self.assertEqual([pot.words() for pot in self.pots], [["pot", "fern", "3"], ["cactus", "agave", "4", "2"]])

    def test_a_changed_list_does_not_reach_the_garden(self):
        self.pots.append(Pot("moss", 2))
        self.assertEqual(answers(self.garden), self.before)
        self.pots.reverse()
        self.assertEqual(answers(self.garden), self.before)
        self.pots.clear()
        self.assertEqual(answers(self.garden), self.before)

    def test_a_changed_pot_does_not_reach_the_garden(self):
        self.fern.name = "moss"
        self.fern.gap = 60
        self.agave.gap = 1
        self.agave.rest = 0
        self.assertEqual(answers(self.garden), self.before)

    def test_lists_given_back_are_the_askers_own(self):
        choices(self.garden, self.garden.fresh()).clear()
        self.garden.pots[0].words().clear()
        self.assertEqual(answers(self.garden), self.before)

    def test_gardens_made_of_a_garden_leave_it_as_it_was(self):
        with_cans(self.garden, 5)
        with_gap(self.garden, "fern", 7)
        other = Garden([Pot("moss", 2)])
        behind = answers(other)
        joined(self.garden, other)
        joined(other, self.garden)
        self.assertEqual(answers(self.garden), self.before)
        self.assertEqual(answers(other), behind)

    def test_refused_makings_change_nothing(self):
        for refused, call in ((TooMany, lambda: with_cans(self.garden, 9)),
                              (NoPot, lambda: with_gap(self.garden, "x", 2)),
                              (BadPot, lambda: with_gap(self.garden, "agave", 2)),
                              (BadPot, lambda: joined(self.garden, self.garden)),
                              (NoState, lambda: self.garden.number((2, (0, 0)))),
                              (NoState, lambda: self.garden.state(24))):
            with self.assertRaises(refused):
                call()
            self.assertEqual(answers(self.garden), self.before)


class StatesTest(unittest.TestCase):

    GARDENS = (([5], 1), ([1], 1), ([1], 14), ([60], 1), ([60], 3), ([3, 2], 1), ([2, 3], 4), ([4, 1, 3], 7),
               ([2, 3, 4, 5], 2), ([2] * 8, 2), ([1] * 8, 1))

    def test_numbers_and_states(self):
        for gaps, week in self.GARDENS:
            with self.subTest(gaps=gaps, week=week):
                garden = Garden(pots_of(gaps), 1, week)
                # product counts its last range fastest, as the states are counted.
                expected = [(part[0], part[1:]) for part in product(range(week), *[range(gap) for gap in gaps])]
                self.assertEqual(garden.size(), len(expected))
                self.assertEqual([garden.state(number) for number in range(len(expected))], expected)
                self.assertEqual([garden.number(state) for state in expected], list(range(len(expected))))

    def test_states_written_out(self):
        garden = Garden([Pot("fern", 3), Cactus("agave", 2, 1)], 1, 2)
        self.assertEqual(garden.size(), 12)
        self.assertEqual([garden.state(number) for number in (0, 1, 2, 5, 6, 11)],
                         [(0, (0, 0)), (0, (0, 1)), (0, (1, 0)), (0, (2, 1)), (1, (0, 0)), (1, (2, 1))])
        self.assertEqual(garden.number((1, (1, 1))), 9)

    def test_the_most_states(self):
        garden = Garden(pots_of((50, 40, 10)))
        self.assertEqual(garden.size(), 20000)
        self.assertEqual(garden.state(19999), (0, (49, 39, 9)))
        self.assertEqual(garden.number((0, (49, 39, 9))), 19999)

    def test_states_are_tuples(self):
        garden = Garden(pots_of([3, 2]), 1, 2)
        for state in (garden.fresh(), garden.state(0), garden.state(7)):
            self.assertIs(type(state), tuple)
            self.assertIs(type(state[1]), tuple)

    def test_fresh(self):
        for gaps, week in self.GARDENS:
            garden = Garden(pots_of(gaps), 1, week)
            self.assertEqual(garden.fresh(), (0, (0,) * len(gaps)))
            self.assertEqual(garden.number(garden.fresh()), 0)

    def test_no_number_of_a_state(self):
        for gaps, week in self.GARDENS:
            garden = Garden(pots_of(gaps), 1, week)
            count = garden.size()
            for number in (-1, -count, count, count + 1, 10 ** 30, -10 ** 30) + NO_WHOLE_NUMBERS:
                with self.subTest(gaps=gaps, week=week, number=number):
                    with self.assertRaises(NoState):
                        garden.state(number)

    def test_no_state(self):
        garden = Garden([Pot("fern", 3), Cactus("agave", 2, 1)], 1, 2)
        wrong = (None, 0, 3, True, False, "", "ab", "00", 1.0, (), (0,), ((0, 0),), (0, (0, 0), 0), (0, 0, 0), {}, [],
                 [0, (0, 0)], (0, [0, 0]), (0, None), (0, 0), (0, "00"), (0, {0: 0, 1: 0}), {0: 0, 1: (0, 0)},
                 (-1, (0, 0)), (2, (0, 0)), (3, (0, 0)), (None, (0, 0)), ("0", (0, 0)), (0.0, (0, 0)),
                 (True, (0, 0)), (False, (0, 0)), ((0,), (0, 0)), (10 ** 30, (0, 0)),
                 (0, ()), (0, (0,)), (0, (0, 0, 0)), (0, (3, 0)), (0, (0, 2)), (0, (-1, 0)), (0, (0, -1)),
                 (0, (True, 0)), (0, (0, False)), (0, (0, True)), (0, (None, 0)), (0, ("0", 0)), (0, (0, 0.0)),
                 (0, ((0,), 0)), ((0, 0), 0))
        for state in wrong:
            with self.subTest(state=state):
                with self.assertRaises(NoState):
                    garden.number(state)


class WithCansTest(unittest.TestCase):

    def setUp(self):
        self.garden = Garden([Pot("fern", 3), Cactus("agave", 5, 2)], 2, 7, 65)

    def test_the_same_with_other_cans(self):
        for cans in (0, 2, 8):
            other = with_cans(self.garden, cans)
            self.assertIsInstance(other, Garden)
            self.assertIsNot(other, self.garden)
            self.assertEqual(told(other), ([["pot", "fern", "3"], ["cactus", "agave", "5", "2"]], cans, 7, 65))
        self.assertEqual(self.garden.cans, 2)

    def test_refuses_cans_that_are_none(self):
        for cans in (-1, 9) + NO_WHOLE_NUMBERS:
            with self.subTest(cans=cans):
                with self.assertRaises(TooMany):
                    with_cans(self.garden, cans)


class WithGapTest(unittest.TestCase):

    def setUp(self):
        self.garden = Garden([Pot("fern", 3), Cactus("agave", 5, 2), Pot("moss", 20)], 2, 7, 65)

    def test_the_same_with_another_gap(self):
        rows = [["pot", "fern", "3"], ["cactus", "agave", "5", "2"], ["pot", "moss", "20"]]
        for k, name, gap in ((0, "fern", 1), (0, "fern", 3), (0, "fern", 28), (1, "agave", 3), (1, "agave", 47),
                             (2, "moss", 60)):
            with self.subTest(name=name, gap=gap):
                other = with_gap(self.garden, name, gap)
                expected = [list(row) for row in rows]
                expected[k][2] = str(gap)
                self.assertEqual(told(other), (expected, 2, 7, 65))
                self.assertEqual(isinstance(other.pots[1], Cactus), True)
                self.assertEqual(told(self.garden), (rows, 2, 7, 65))

    def test_no_pot_comes_first(self):
        for name in ("", "fer", "ferns", "Fern", "fern ", None, 0, True, ["fern"], ("fern",), {}, b"fern"):
            for gap in (3, 0, 61, None, 60):
                with self.subTest(name=name, gap=gap):
                    with self.assertRaises(NoPot):
                        with_gap(self.garden, name, gap)

    def test_then_bad_pot(self):
        for name, gap in (("fern", 0), ("fern", 61), ("fern", -1), ("agave", 2), ("agave", 0), ("moss", 10 ** 30)):
            with self.subTest(name=name, gap=gap):
                with self.assertRaises(BadPot):
                    with_gap(self.garden, name, gap)
        for gap in NO_WHOLE_NUMBERS:
            with self.subTest(gap=gap):
                with self.assertRaises(BadPot):
                    with_gap(self.garden, "fern", gap)

    def test_then_too_many(self):
        for name, gap in (("fern", 29), ("fern", 60), ("agave", 48)):
            with self.subTest(name=name, gap=gap):
                with self.assertRaises(TooMany):
                    with_gap(self.garden, name, gap)


class JoinedTest(unittest.TestCase):

    def test_pots_and_cans_of_both_and_the_week_of_the_first(self):
        one = Garden([Pot("fern", 3), Cactus("agave", 5, 2)], 2, 7, 65)
        other = Garden([Cactus("cereus", 4, 0), Pot("basil", 2)], 3, 2, 1)
        ones = [["pot", "fern", "3"], ["cactus", "agave", "5", "2"]]
        others = [["cactus", "cereus", "4", "0"], ["pot", "basil", "2"]]
        self.assertEqual(told(joined(one, other)), (ones + others, 5, 7, 65))
        self.assertEqual(told(joined(other, one)), (others + ones, 5, 2, 1))
        self.assertEqual(told(one), (ones, 2, 7, 65))
        self.assertEqual(told(other), (others, 3, 2, 1))

    def test_bounds_that_are_allowed(self):
        one = Garden(pots_of([2] * 4), 8)
        other = Garden([Pot(name, 2) for name in ("p", "q", "r", "s")], 0)
        self.assertEqual((len(joined(one, other).pots), joined(one, other).cans), (8, 8))
        self.assertEqual(joined(with_cans(one, 0), other).cans, 0)

    def test_too_many_pots_or_cans_come_first(self):
        one = Garden(pots_of([1] * 8), 1)
        for other in (Garden([Pot("z", 1)], 1), Garden([Pot("a", 1)], 1), one):
            with self.assertRaises(TooMany):
                joined(one, other)
        fern = Garden([Pot("fern", 3)], 4)
        for other in (Garden([Pot("moss", 3)], 5), Garden([Pot("fern", 3)], 5)):
            with self.assertRaises(TooMany):
                joined(fern, other)

    def test_then_a_name_twice(self):
        one = Garden([Pot("fern", 60), Pot("moss", 60)])
        for other in (Garden([Pot("moss", 2)]), one):
            with self.assertRaises(BadPot):
                joined(one, other)

    def test_then_too_many_states(self):
        one = Garden([Pot("fern", 60), Pot("moss", 60)])
        self.assertEqual(joined(one, Garden([Pot("aloe", 5)], 1, 14)).size(), 18000)
        with self.assertRaises(TooMany):
            joined(one, Garden([Pot("aloe", 6)]))
        with self.assertRaises(TooMany):
            joined(Garden([Pot("aloe", 5)], 1, 14), one)


if __name__ == "__main__":
    unittest.main()
