import copy
import unittest

from oracle import NO_NAMES, NO_STATES, dry_behind, garden_without_such_states, is_allowed, names_of, small_gardens
from oracle import state_behind, states_of, told
from thirstwise.errors import BadDay, NoPot, NoState
from thirstwise.gardens import Garden
from thirstwise.lives import days_of, rounds_of
from thirstwise.plans import followed, kept, kept_for_ever, sheet
from thirstwise.pots import Cactus, Pot


class PlansTest(unittest.TestCase):

    def setUp(self):
        self.two = Garden([Pot("fern", 2), Pot("moss", 2)])
        self.bed = Garden([Pot("fern", 3), Cactus("agave", 4, 2), Pot("moss", 3)], 2, 4, 8)

    def refused(self, day, function, *arguments):
        with self.assertRaises(BadDay) as caught:
            function(*arguments)
        self.assertEqual(caught.exception.day, day)


class KeptTest(PlansTest):

    def test_rows_that_keep_all(self):
        self.assertEqual(kept(self.two, [["fern"], ["moss"], ["fern"]]), (True, (0, (0, 1))))
        self.assertEqual(kept(self.bed, [[], ["fern"], ["moss", "agave"]]), (True, (3, (1, 0, 0))))
        self.assertEqual(kept(self.bed, [[], ["fern"], ["agave", "moss"], []]), (True, (0, (2, 1, 1))))

    def test_no_rows(self):
        self.assertEqual(kept(self.bed, []), (True, (0, (0, 0, 0))))
        self.assertEqual(followed(self.bed, [], (2, (1, 3, 0)), 5), (True, (2, (1, 3, 0))))

    def test_the_first_dry_pot_in_the_gardens_order(self):
        self.assertEqual(kept(self.two, [[], []]), (False, 1, "fern"))
        self.assertEqual(kept(self.two, [["fern"], []]), (False, 1, "moss"))
        self.assertEqual(kept(self.two, [[], ["fern"]]), (False, 1, "moss"))
        self.assertEqual(kept(self.two, [["moss"], ["moss"]]), (False, 1, "fern"))
        self.assertEqual(kept(self.bed, [[], [], []]), (False, 2, "fern"))
        self.assertEqual(kept(self.bed, [[], [], ["fern"]]), (False, 2, "moss"))
        self.assertEqual(kept(self.bed, [[], [], ["fern", "moss"], []]), (False, 3, "agave"))
        self.assertEqual(kept(Garden([Pot("moss", 1), Pot("fern", 1)]), [[]]), (False, 0, "moss"))

    def test_a_name_that_no_pot_bears(self):
        for name in NO_NAMES:
            for row in ([name], ["fern", name], [name, "fern"]):
                with self.subTest(row=row):
                    with self.assertRaises(NoPot):
                        kept(self.bed, [["fern"], row])
                    with self.assertRaises(NoPot):
                        followed(self.bed, [row], (1, (0, 0, 0)), 3)

    def test_a_name_twice(self):
        self.refused(0, kept, self.bed, [["fern", "fern"]])
        self.refused(1, kept, self.bed, [["moss"], ["fern", "fern"]])
        eight = Garden([Pot("fern", 3), Pot("moss", 3)], 8)
        self.refused(2, kept, eight, [["moss"], ["fern"], ["fern", "moss", "fern"]])

    def test_no_pot_comes_ahead_of_bad_day(self):
        for row in (["fern", "fern", "sage"], ["sage", "fern", "fern"], ["sage", "sage"],
                    ["fern", "moss", "agave", "sage"], ["agave", "sage"]):
            with self.subTest(row=row):
                with self.assertRaises(NoPot):
                    kept(self.bed, [row])
        with self.assertRaises(NoPot):
            followed(self.bed, [["sage"]], (3, (0, 0, 0)))

    def test_more_pots_than_cans(self):
        self.refused(0, kept, self.two, [["fern", "moss"]])
        self.refused(2, kept, self.bed, [[], [], ["fern", "agave", "moss"]])
        self.refused(0, kept, Garden([Pot("fern", 3)], 0), [["fern"]])

    def test_a_closed_day(self):
        self.refused(3, kept, self.bed, [["fern"], [], ["moss"], ["fern"]])
        self.assertEqual(kept(self.bed, [["fern"], [], ["moss"], []]), (False, 3, "fern"))
        self.refused(0, followed, self.bed, [["fern"]], (3, (0, 0, 0)))
        self.assertEqual(followed(self.bed, [[]], (3, (0, 0, 0))), (True, (0, (1, 1, 1))))

    def test_a_cactus_that_did_not_rest_enough(self):
        self.refused(0, kept, self.bed, [["agave"]])
        self.refused(1, kept, self.bed, [[], ["agave"]])
        self.refused(1, kept, self.bed, [["fern"], ["fern", "agave"]])
        self.assertEqual(kept(self.bed, [[], ["fern"], ["agave", "moss"]])[0], True)
        self.refused(3, followed, self.bed, [["agave"], ["agave"]], (0, (0, 2, 0)), 2)

    def test_bad_days_come_ahead_of_what_is_done(self):
        # The other pot would be dry behind the same day.
        self.refused(1, kept, self.two, [["fern"], ["fern", "fern"]])
        self.refused(2, kept, Garden([Pot("fern", 3), Cactus("agave", 9, 5)]), [[], [], ["agave"]])
        with self.assertRaises(NoPot):
            kept(self.two, [["fern"], ["sage"]])

    def test_days_behind_a_dry_pot_are_not_looked_at(self):
        for row in (["sage"], ["fern", "fern"], ["fern", "moss"], [None]):
            with self.subTest(row=row):
                self.assertEqual(kept(self.two, [["fern"], [], row]), (False, 1, "moss"))

    def test_days_in_turn(self):
        self.refused(0, kept, self.two, [["fern", "moss"], ["sage"]])
        with self.assertRaises(NoPot):
            kept(self.two, [["sage"], ["fern", "moss"]])
        self.refused(1, kept, self.two, [["fern"], ["moss", "moss"], [], ["fern", "moss"]])

    def test_days_counted_from_the_first_that_is_told(self):
        self.assertEqual(followed(self.two, [["moss"], ["moss"]], (0, (0, 1)), 10), (False, 11, "fern"))
        self.assertEqual(followed(self.two, [["moss"], ["moss"]], (0, (0, 1)), first=10), (False, 11, "fern"))
        self.assertEqual(followed(self.two, [["moss"], ["moss"]], (0, (0, 1))), (False, 1, "fern"))
        self.assertEqual(followed(self.two, [["moss"], ["fern"]], (0, (0, 1)), 10), (True, (0, (0, 1))))
        self.refused(12, followed, self.two, [["moss"], ["fern"], ["moss", "moss"]], (0, (0, 1)), 10)
        self.refused(100, followed, self.two, [["moss", "fern"]], (0, (0, 1)), 100)

    def test_the_week_goes_by_the_state_and_not_by_the_count(self):
        self.refused(8, followed, self.bed, [["fern"]], (3, (0, 0, 0)), 8)
        self.assertEqual(followed(self.bed, [["fern"]], (0, (0, 0, 0)), 3), (True, (1, (0, 1, 1))))

    def test_no_state_ahead_of_all(self):
        garden = garden_without_such_states()
        for state in NO_STATES + (None,):
            for rows in ([], [["fern"]], [["sage"]], [["fern", "fern"]]):
                with self.subTest(state=state, rows=rows):
                    with self.assertRaises(NoState):
                        followed(garden, rows, state)

    def test_every_choice_of_many_states(self):
        for garden in small_gardens()[::3]:
            for state in states_of(garden):
                for choice in range(2 ** len(garden.pots)):
                    names = names_of(garden, choice)
                    message = (told(garden), state, choice)
                    dry = dry_behind(garden, state, choice)
                    if not is_allowed(garden, state, choice):
                        self.refused(4, followed, garden, [names], state, 4)
                    elif dry:
                        self.assertEqual(followed(garden, [names], state, 4), (False, 4, dry[0]), message)
                    else:
                        expected = (True, state_behind(garden, state, choice))
                        self.assertEqual(followed(garden, [names], state, 4), expected, message)
                        self.assertEqual(followed(garden, [names[::-1]], state), expected, message)

    def test_what_is_best_is_kept(self):
        for garden in small_gardens():
            ahead, again = rounds_of(garden)
            found = kept(garden, ahead + (again or []))
            self.assertTrue(found[0], told(garden))
            if again is None:
                self.assertEqual(days_of(garden, found[1]), 0, told(garden))

    def test_handed_in_stays_as_it_was(self):
        lead = [["fern"]]
        rows = [["moss"], ["fern"]]
        before = copy.deepcopy((lead, rows, told(self.two)))
        for found in (kept(self.two, rows), followed(self.two, rows, (0, (0, 1)), 3),
                      kept_for_ever(self.two, lead, rows), kept_for_ever(self.two, rows, rows)):
            self.assertEqual(found[0], True)
        self.assertEqual(kept_for_ever(self.two, rows, lead)[0], False)
        self.refused(2, kept_for_ever, self.two, rows, [])
        sheet(rows, 4)
        self.assertEqual((lead, rows, told(self.two)), before)

    def test_kinds(self):
        found = kept(self.two, [["fern"]])
        self.assertIs(type(found), tuple)
        self.assertIs(found[0], True)
        self.assertIs(type(found[1]), tuple)
        self.assertIs(type(found[1][1]), tuple)
        found = kept(self.two, [[], []])
        self.assertIs(type(found), tuple)
        self.assertIs(found[0], False)


class KeptForEverTest(PlansTest):

    def test_an_empty_lead_and_one_round(self):
        self.assertEqual(kept_for_ever(Garden([Pot("fern", 1)]), [], [["fern"]]), (True, 1))
        self.assertEqual(kept_for_ever(Garden([Pot("fern", 3)]), [], [[], [], ["fern"]]), (True, 1))

    def test_a_lead_of_some_days(self):
        self.assertEqual(kept_for_ever(self.two, [["fern"]], [["moss"], ["fern"]]), (True, 1))
        self.assertEqual(kept_for_ever(Garden([Pot("fern", 3)], 1, 3, 6), [["fern"]], [[], [], ["fern"]]), (True, 1))

    def test_the_first_state_that_comes_again_is_not_the_first(self):
        # Ahead of the first round the moss has 0, ahead of all later ones 1.
        self.assertEqual(kept_for_ever(self.two, [], [["moss"], ["fern"]]), (True, 1))
        # Two rounds from the second state on, on days 1 and 0 of the week.
        self.assertEqual(kept_for_ever(Garden([Pot("fern", 2), Pot("moss", 3)], 1, 2), [],
                                       [["moss"], ["fern"], ["fern"]]), (True, 2))

    def test_several_rounds_till_the_state_comes_again(self):
        self.assertEqual(kept_for_ever(Garden([Pot("fern", 1)], 1, 7), [], [["fern"]]), (True, 7))
        self.assertEqual(kept_for_ever(Garden([Pot("fern", 2)], 1, 7), [], [["fern"], ["fern"]]), (True, 7))
        self.assertEqual(kept_for_ever(Garden([Pot("fern", 2)], 1, 6), [], [[], ["fern"]]), (True, 3))
        self.assertEqual(kept_for_ever(Garden([Pot("fern", 2)], 1, 6), [["fern"]], [["fern"], []]), (True, 3))
        self.assertEqual(kept_for_ever(Garden([Pot("fern", 4)], 1, 6), [["fern"]], [[], [], [], ["fern"]]), (True, 3))

    def test_a_pot_dry_in_the_lead(self):
        self.assertEqual(kept_for_ever(self.two, [["fern"], ["fern"]], [["moss"], ["fern"]]), (False, 1, "moss"))
        for rows in ([["sage"]], [["fern", "fern"]], [["fern", "moss"]]):
            self.assertEqual(kept_for_ever(self.two, [["fern"], ["fern"]], rows), (False, 1, "moss"))

    def test_a_pot_dry_in_the_first_round(self):
        self.assertEqual(kept_for_ever(self.two, [], [["fern"], ["fern"]]), (False, 1, "moss"))
        self.assertEqual(kept_for_ever(self.two, [["fern"], ["moss"]], [["fern"], ["fern"]]), (False, 3, "moss"))

    def test_a_pot_dry_in_a_later_round(self):
        fern = Garden([Pot("fern", 3)])
        self.assertEqual(kept_for_ever(fern, [], [["fern"], [], []])[0], True)
        self.assertEqual(kept_for_ever(Garden([Pot("fern", 5)]), [], [[], []]), (False, 4, "fern"))
        self.assertEqual(kept_for_ever(Garden([Pot("fern", 5)]), [["fern"]], [[], []]), (False, 5, "fern"))
        self.assertEqual(kept_for_ever(Garden([Pot("moss", 60)]), [], [[]]), (False, 59, "moss"))
        self.assertEqual(kept_for_ever(fern, [[], ["fern"]], [[], ["fern"], [], []]), (False, 6, "fern"))

    def test_a_bad_day_in_the_lead(self):
        self.refused(1, kept_for_ever, self.two, [["fern"], ["fern", "moss"]], [["moss"], ["fern"]])
        self.refused(0, kept_for_ever, self.two, [["fern", "fern"]], [["sage"]])
        with self.assertRaises(NoPot):
            kept_for_ever(self.two, [["sage"]], [["fern", "fern"]])

    def test_a_bad_day_in_the_round(self):
        self.refused(0, kept_for_ever, self.two, [], [["fern", "moss"]])
        self.refused(3, kept_for_ever, self.two, [["fern"], ["moss"]], [["fern"], ["moss", "moss"]])
        with self.assertRaises(NoPot):
            kept_for_ever(self.two, [["fern"]], [["moss"], ["sage"]])
        # On a closed day only in the fifth round; on day 6, which is closed too, the round has no names.
        self.refused(13, kept_for_ever, Garden([Pot("fern", 2)], 1, 7, 64), [], [[], ["fern"], ["fern"]])
        self.refused(6, kept_for_ever, Garden([Pot("fern", 2)], 1, 7, 64), [["fern"]], [["fern"]])
        # A cactus that rested enough ahead of the first round, but not ahead of the second.
        self.refused(4, kept_for_ever, Garden([Cactus("agave", 4, 2)]), [[], []], [["agave"], []])

    def test_an_empty_round(self):
        self.refused(0, kept_for_ever, self.two, [], [])
        self.refused(3, kept_for_ever, self.two, [["fern"], ["moss"], ["fern"]], [])

    def test_an_empty_round_behind_a_lead_that_lets_a_pot_dry(self):
        self.refused(2, kept_for_ever, self.two, [["fern"], ["fern"]], [])
        self.refused(4, kept_for_ever, self.two, [["fern"], ["fern"], ["sage"], ["fern", "fern"]], [])

    def test_an_empty_round_behind_a_bad_lead(self):
        self.refused(1, kept_for_ever, self.two, [["fern"], ["moss", "moss"], ["fern"]], [])
        with self.assertRaises(NoPot):
            kept_for_ever(self.two, [["fern"], ["sage"]], [])

    def test_what_is_best_is_kept_for_ever(self):
        for garden in small_gardens():
            ahead, again = rounds_of(garden)
            if again is not None:
                self.assertEqual(kept_for_ever(garden, ahead, again), (True, 1), told(garden))
                self.assertEqual(kept_for_ever(garden, ahead + again, again + again), (True, 1), told(garden))

    def test_rounds_laid_out_one_by_one(self):
        for garden in small_gardens():
            for lead, rows in (([], [["fern"]]), ([[]], [["moss"], []]), ([], [[], ["agave"], []]),
                               ([["fern"], ["moss"]], [["fern"], [], ["moss"]]), ([[], []], [["agave"], ["moss"], []])):
                rows = [[name for name in row if name in [pot.name for pot in garden.pots]] for row in rows]
                lead = [[name for name in row if name in [pot.name for pot in garden.pots]] for row in lead]
                expected = laid_out(garden, lead, rows)
                if isinstance(expected, int):
                    self.refused(expected, kept_for_ever, garden, lead, rows)
                else:
                    self.assertEqual(kept_for_ever(garden, lead, rows), expected, (told(garden), lead, rows))

    def test_kinds(self):
        found = kept_for_ever(self.two, [["fern"]], [["moss"], ["fern"]])
        self.assertIs(type(found), tuple)
        self.assertIs(found[0], True)
        self.assertIs(type(found[1]), int)


def laid_out(garden, lead, rows):
    # Ever longer plans from the fresh state on, till a state ahead of a round comes again; a bad day is a number.
    states = []
    plan = list(lead)
    while True:
        try:
            found = kept(garden, plan)
        except BadDay as error:
            return error.day
        if not found[0]:
            return found
        if found[1] in states:
            return (True, len(states) - states.index(found[1]))
        states.append(found[1])
        plan = plan + rows


class SheetTest(unittest.TestCase):

    def test_no_width_told(self):
        self.assertEqual(sheet([["fern", "moss"], [], ["agave"]]), ["1 fern moss", "2", "3 agave"])

    def test_no_rows(self):
        self.assertEqual(sheet([]), [])
        self.assertEqual(sheet([], 5), [])

    def test_widths_above_the_numbers_own(self):
        self.assertEqual(sheet([["fern", "moss"], []], 1), ["1 fern moss", "2"])
        self.assertEqual(sheet([["fern", "moss"], []], 4), ["   1 fern moss", "   2"])
        self.assertEqual(sheet([["fern"]], width=2), [" 1 fern"])

    def test_widths_below_the_numbers_own(self):
        rows = [[] for day in range(8)] + [["fern"], ["moss"], []]
        self.assertEqual(sheet(rows)[7:], ["8", "9 fern", "10 moss", "11"])
        self.assertEqual(sheet(rows, 1)[7:], ["8", "9 fern", "10 moss", "11"])
        self.assertEqual(sheet(rows, 2)[7:], [" 8", " 9 fern", "10 moss", "11"])
        self.assertEqual(sheet(rows, 3)[7:], ["  8", "  9 fern", " 10 moss", " 11"])

    def test_kinds(self):
        found = sheet([["fern"], []])
        self.assertIs(type(found), list)
        self.assertEqual([type(text) for text in found], [str, str])
        found.clear()
        self.assertEqual(sheet([["fern"], []]), ["1 fern", "2"])


if __name__ == "__main__":
    unittest.main()
