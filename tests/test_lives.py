import unittest

from oracle import NO_STATES, expected_best, expected_days, garden_without_such_states, names_of, small_gardens
from oracle import states_of, told
from thirstwise.choices import choices
from thirstwise.errors import NoState
from thirstwise.gardens import Garden
from thirstwise.lives import Lives, days_of, rounds_of, table
from thirstwise.pots import Cactus, Pot


class DaysTest(unittest.TestCase):

    def test_no_cans(self):
        self.assertEqual(table(Garden([Pot("fern", 3)], 0)), [2, 1, 0])
        self.assertEqual(table(Garden([Pot("fern", 1)], 0)), [0])
        self.assertEqual(table(Garden([Pot("fern", 2), Pot("moss", 3)], 0)), [1, 1, 0, 0, 0, 0])

    def test_for_ever(self):
        self.assertEqual(table(Garden([Pot("fern", 3)])), [None, None, None])
        self.assertEqual(table(Garden([Pot("fern", 1)], 8)), [None])
        self.assertEqual(table(Garden([Pot("fern", 1)], 8, 1, 1)), [0])

    def test_for_ever_in_some_states_only(self):
        # One can for two pots that both need water every second day: not when both need it at once.
        self.assertEqual(table(Garden([Pot("fern", 2), Pot("moss", 2)])), [None, None, None, 0])

    def test_closed_days(self):
        # Nobody comes on days 1 and 2: water on day 0, and two days behind it are left.
        self.assertEqual(table(Garden([Pot("fern", 2)], 1, 3, 6)), [2, 2, 1, 0, 3, 0])
        self.assertEqual(table(Garden([Pot("fern", 3)], 1, 3, 6)), [None, None, None, None, 1, 0, None, None, 0])

    def test_a_cactus(self):
        # It must be watered just every second day, and nobody comes on one day of three.
        self.assertEqual(table(Garden([Cactus("agave", 2, 1)], 1, 3, 1)), [3, 0, 5, 2, 1, 4])
        self.assertEqual(table(Garden([Cactus("agave", 2, 1)], 1, 2, 1)), [None, 0, 1, None])
        # Both have to wait for the same day.
        self.assertEqual(days_of(Garden([Cactus("agave", 2, 1), Cactus("cereus", 2, 1)])), 1)

    def test_one_pot_too_many(self):
        # Behind the fourth day each must have had water once, with one can a day.
        pots = [Pot(name, 4) for name in "abcde"]
        self.assertIsNone(days_of(Garden(pots[:4])))
        self.assertEqual(days_of(Garden(pots)), 3)

    def test_every_state_by_the_definition(self):
        for garden in small_gardens():
            days = expected_days(garden)
            lives = Lives(garden)
            states = states_of(garden)
            message = told(garden)
            self.assertEqual(table(garden), [days[state] for state in states], message)
            self.assertEqual([lives.days(state) for state in states], [days[state] for state in states], message)
            self.assertEqual(days_of(garden), days[garden.fresh()], message)
            self.assertEqual(days_of(garden, None), days[garden.fresh()], message)

    def test_every_state_by_the_choices(self):
        for garden in small_gardens():
            days = table(garden)
            for number in range(garden.size()):
                behind = [days[garden.number(other)] for choice, other in choices(garden, garden.state(number))]
                if None in behind:
                    expected = None
                else:
                    expected = max(behind) + 1 if behind else 0
                self.assertEqual(days[number], expected, (told(garden), number))

    def test_days_of_each_state(self):
        for garden in (Garden([Pot("fern", 3), Cactus("agave", 3, 1)], 1, 2, 1), Garden([Pot("fern", 2)], 1, 3, 6),
                       Garden([Pot("moss", 2), Pot("fern", 2), Cactus("agave", 4, 2)], 1, 2)):
            days = expected_days(garden)
            self.assertGreater(len(set(days.values())), 2)
            for state in states_of(garden):
                self.assertEqual(days_of(garden, state), days[state], (told(garden), state))
                self.assertEqual(days_of(garden, state=state), days[state], (told(garden), state))

    def test_the_most_states(self):
        # Nobody ever comes: the thirstiest pot counts.
        garden = Garden([Pot("fern", 50), Pot("moss", 40), Pot("sage", 10)], 8, 1, 1)
        days = table(garden)
        self.assertEqual(len(days), 20000)
        for number in range(0, 20000, 7):
            fern, moss, sage = garden.state(number)[1]
            self.assertEqual(days[number], min(49 - fern, 39 - moss, 9 - sage))

    def test_a_changed_table_is_asked_again(self):
        garden = Garden([Pot("fern", 2), Pot("moss", 2)])
        days = table(garden)
        self.assertIs(type(days), list)
        days[0] = 7
        days.clear()
        self.assertEqual(table(garden), [None, None, None, 0])
        self.assertIsNone(days_of(garden))

    def test_no_state(self):
        garden = garden_without_such_states()
        lives = Lives(garden)
        for state in NO_STATES:
            with self.subTest(state=state):
                with self.assertRaises(NoState):
                    days_of(garden, state)
                with self.assertRaises(NoState):
                    lives.days(state)
        with self.assertRaises(NoState):
            lives.days(None)


class BestTest(unittest.TestCase):

    def test_for_ever_comes_ahead_of_many_days(self):
        lives = Lives(Garden([Pot("fern", 2), Pot("moss", 2)]))
        self.assertEqual(lives.best((0, (0, 0))), (1, (0, (0, 1))))
        self.assertEqual(lives.best((0, (0, 1))), (2, (0, (1, 0))))
        self.assertEqual(lives.best((0, (1, 0))), (1, (0, (0, 1))))
        self.assertIsNone(lives.best((0, (1, 1))))

    def test_the_least_number_of_several(self):
        lives = Lives(Garden([Pot("fern", 3), Pot("moss", 3)], 2))
        self.assertEqual(lives.best((0, (0, 0))), (0, (0, (1, 1))))
        self.assertEqual(lives.best((0, (2, 0))), (1, (0, (0, 1))))
        self.assertEqual(lives.best((0, (2, 2))), (3, (0, (0, 0))))

    def test_the_most_days_where_it_ends(self):
        # Three pots that are dry after two days and one can: all end, the second day is the last one.
        lives = Lives(Garden([Pot(name, 2) for name in "abc"]))
        self.assertEqual(lives.days((0, (0, 0, 0))), 1)
        self.assertEqual(lives.best((0, (0, 0, 0))), (0, (0, (1, 1, 1))))
        lives = Lives(Garden([Pot("fern", 2)], 1, 3, 6))
        self.assertEqual(lives.best((0, (0,))), (1, (1, (0,))))
        self.assertEqual(lives.best((2, (0,))), (0, (0, (1,))))

    def test_every_state_by_the_definition(self):
        for garden in small_gardens():
            days = expected_days(garden)
            lives = Lives(garden)
            for state in states_of(garden):
                self.assertEqual(lives.best(state), expected_best(garden, days, state), (told(garden), state))

    def test_kinds(self):
        found = Lives(Garden([Pot("fern", 2)])).best((0, (1,)))
        self.assertIs(type(found), tuple)
        self.assertIs(type(found[0]), int)
        self.assertIs(type(found[1]), tuple)

    def test_no_state(self):
        lives = Lives(garden_without_such_states())
        for state in NO_STATES + (None,):
            with self.subTest(state=state):
                with self.assertRaises(NoState):
                    lives.best(state)

    def test_a_changed_garden_does_not_reach_it(self):
        garden = Garden([Pot("fern", 2), Cactus("agave", 3, 1)], 1, 2, 0)
        lives = Lives(garden)
        states = states_of(garden)
        before = [(lives.days(state), lives.best(state)) for state in states]
        garden.cans = 0
        garden.closed = 3
        garden.pots[0].gap = 3
        garden.pots[1].rest = 0
        self.assertEqual([(lives.days(state), lives.best(state)) for state in states], before)
        garden.week = 1
        garden.pots.clear()
        self.assertEqual([(lives.days(state), lives.best(state)) for state in states], before)

    def test_the_garden_stays_as_it_was(self):
        garden = Garden([Pot("fern", 2), Cactus("agave", 3, 1)], 1, 2, 1)
        before = told(garden)
        lives = Lives(garden)
        lives.days(garden.fresh())
        lives.best(garden.fresh())
        table(garden)
        days_of(garden)
        rounds_of(garden)
        self.assertEqual(told(garden), before)


def expected_rounds(garden, days, state):
    states, rows = [state], []
    while True:
        found = expected_best(garden, days, states[-1])
        if found is None:
            return (rows, None)
        rows.append(names_of(garden, found[0]))
        if found[1] in states:
            first = states.index(found[1])
            return (rows[:first], rows[first:])
        states.append(found[1])


class RoundsTest(unittest.TestCase):

    def test_a_round_from_the_first_day_on(self):
        self.assertEqual(rounds_of(Garden([Pot("fern", 3)])), ([], [[], [], ["fern"]]))
        self.assertEqual(rounds_of(Garden([Pot("fern", 1)])), ([], [["fern"]]))

    def test_days_ahead_of_a_round(self):
        garden = Garden([Pot("fern", 2), Pot("moss", 2)])
        self.assertEqual(rounds_of(garden), ([["fern"]], [["moss"], ["fern"]]))
        self.assertEqual(rounds_of(garden, (0, (0, 1))), ([], [["moss"], ["fern"]]))

    def test_names_in_the_gardens_order(self):
        garden = Garden([Pot("zinnia", 2), Pot("aloe", 2)], 2)
        self.assertEqual(rounds_of(garden), ([], [[], ["zinnia", "aloe"]]))

    def test_closed_days(self):
        garden = Garden([Pot("fern", 3)], 1, 3, 6)
        self.assertEqual(rounds_of(garden), ([["fern"]], [[], [], ["fern"]]))
        self.assertEqual(rounds_of(garden, (2, (1,))), ([], [[], ["fern"], []]))
        self.assertEqual(rounds_of(garden, (2, (0,))), ([[], ["fern"]], [[], [], ["fern"]]))

    def test_it_ends_after_some_days(self):
        self.assertEqual(rounds_of(Garden([Pot("fern", 3)], 0)), ([[], []], None))
        self.assertEqual(rounds_of(Garden([Pot("fern", 2)], 1, 3, 6)), ([["fern"], []], None))
        self.assertEqual(rounds_of(Garden([Pot("fern", 2)], 1, 3, 6), (2, (0,))), ([[], ["fern"], []], None))

    def test_it_ends_after_none(self):
        self.assertEqual(rounds_of(Garden([Pot("fern", 1)], 0)), ([], None))
        self.assertEqual(rounds_of(Garden([Pot("fern", 2), Pot("moss", 2)]), (0, (1, 1))), ([], None))

    def test_every_state_by_the_definition(self):
        # Each third garden: the others differ from these little.
        for garden in small_gardens()[::3]:
            days = expected_days(garden)
            for state in states_of(garden)[::5]:
                self.assertEqual(rounds_of(garden, state), expected_rounds(garden, days, state), (told(garden), state))

    def test_fresh_where_none_is_told(self):
        for garden in small_gardens():
            days = expected_days(garden)
            expected = expected_rounds(garden, days, garden.fresh())
            self.assertEqual(rounds_of(garden), expected, told(garden))
            self.assertEqual(rounds_of(garden, state=None), expected, told(garden))

    def test_a_round_has_no_state_twice(self):
        for garden in small_gardens():
            ahead, again = rounds_of(garden)
            lives = Lives(garden)
            states = [garden.fresh()]
            for names in ahead + (again or []):
                choice, behind = lives.best(states[-1])
                self.assertEqual(names_of(garden, choice), names)
                states.append(behind)
            if again is None:
                self.assertEqual(len(ahead), days_of(garden))
                self.assertIsNone(lives.best(states[-1]))
            else:
                self.assertEqual(states.pop(), states[len(ahead)])
            self.assertEqual(len(set(states)), len(states))

    def test_lists_given_back_are_the_askers_own(self):
        garden = Garden([Pot("fern", 2), Pot("moss", 2)], 1, 2)
        before = rounds_of(garden)
        ahead, again = rounds_of(garden)
        self.assertIs(type(ahead), list)
        self.assertIs(type(again), list)
        rows = ahead + again
        self.assertEqual(len({id(row) for row in rows}), len(rows))
        for row in rows:
            self.assertIs(type(row), list)
            row.clear()
        ahead.clear()
        again.clear()
        self.assertEqual(rounds_of(garden), before)
        self.assertIs(type(before), tuple)

    def test_no_state(self):
        garden = garden_without_such_states()
        for state in NO_STATES:
            with self.subTest(state=state):
                with self.assertRaises(NoState):
                    rounds_of(garden, state)


if __name__ == "__main__":
    unittest.main()
