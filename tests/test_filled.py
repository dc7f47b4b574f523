import copy
import unittest

from chargeyard.filled import best_filling, lacking_set, least_lack
from chargeyard.yards import guests_times, yard_times
from plain import plain_faults, plain_lack, plain_short
from samples import (
    DEEP, DEEP_GUESTS, EIGHT_TURNS, ONE_LINE, TOP, all_sets, filled_cases, is_whole, made_cases, small_cases,
)


class FilledTest(unittest.TestCase):
    def assert_lack(self, yard, guests, lack):
        """That this lack is told, by a filling that has it and by a set whose short it is: so it is the least one."""
        self.assertEqual(least_lack(yard, guests), lack)
        self.assertTrue(is_whole(least_lack(yard, guests)))
        self.assert_filling(yard, guests, best_filling(yard, guests), lack)
        some = lacking_set(yard, guests)
        self.assertIn(some, all_sets(guests))
        self.assertEqual(plain_short(yard, guests, some), lack)

    def assert_filling(self, yard, guests, filling, lack):
        self.assertIsInstance(filling, list)
        self.assertEqual(len(filling), len(guests))
        for takes in filling:
            self.assertIsInstance(takes, list)
            self.assertEqual(len(takes), yard[0])
            self.assertTrue(all(is_whole(take) for take in takes))
        self.assertEqual(plain_faults(yard, guests, filling), [])
        self.assertEqual(sum(guest[3] - sum(takes) for guest, takes in zip(guests, filling)), lack)

    def test_no_guests(self):
        for yard in (ONE_LINE, DEEP, EIGHT_TURNS, (1, ((None, (0,)),))):
            self.assertEqual(least_lack(yard, []), 0)
            self.assertEqual(best_filling(yard, []), [])
            self.assertEqual(lacking_set(yard, []), [])

    def test_one_turn(self):
        self.assert_lack(ONE_LINE, [(0, 0, 0, 4, 4)], 0)
        self.assertEqual(best_filling(ONE_LINE, [(0, 0, 0, 4, 4)]), [[4]])
        self.assert_lack(ONE_LINE, [(0, 0, 0, 5, 5)], 0)
        self.assert_lack(ONE_LINE, [(0, 0, 0, 5, 3)], 2)
        self.assertEqual(best_filling(ONE_LINE, [(0, 0, 0, 5, 3)]), [[3]])
        self.assertEqual(lacking_set(ONE_LINE, [(0, 0, 0, 5, 3)]), [0])
        self.assert_lack(ONE_LINE, [(0, 0, 0, 9, 9)], 4)
        self.assert_lack(ONE_LINE, [(0, 0, 0, 3, 3), (0, 0, 0, 3, 3)], 1)
        self.assertEqual(lacking_set(ONE_LINE, [(0, 0, 0, 3, 3), (0, 0, 0, 3, 3)]), [0, 1])

    def test_bounds_of_0(self):
        self.assert_lack((1, ((None, (0,)),)), [(0, 0, 0, 1, 1)], 1)
        self.assert_lack((2, ((None, (0, 0)),)), [(0, 0, 1, 3, 1), (0, 1, 1, TOP, TOP)], 3 + TOP)
        # Beneath, between and above: each of them alone shuts the way.
        for shut in range(3):
            bounds = [(0,) if line == shut else (9,) for line in range(3)]
            yard = (1, ((None, bounds[0]), (0, bounds[1]), (1, bounds[2])))
            self.assert_lack(yard, [(2, 0, 0, 5, 5)], 5)
        yard = (2, ((None, (9, 9)), (0, (0, 4))))
        self.assert_lack(yard, [(1, 0, 1, 5, 5), (0, 0, 0, 5, 5)], 1)

    def test_a_filling_by_one_s_own_turns_alone(self):
        yard = (3, ((None, (2, 2, 2)),))
        self.assert_lack(yard, [(0, 1, 1, 6, 6)], 4)
        self.assertEqual(best_filling(yard, [(0, 1, 1, 6, 6)]), [[0, 2, 0]])
        self.assert_lack(yard, [(0, 0, 2, 6, 6)], 0)
        self.assertEqual(best_filling(yard, [(0, 0, 2, 6, 6)]), [[2, 2, 2]])

    def test_one_makes_way_for_another(self):
        # Guest 0 could take all of turn 0, but must leave it to guest 1, and turn 1 to guest 2.
        yard = (3, ((None, (2, 2, 2)),))
        guests = [(0, 0, 2, 2, 2), (0, 0, 0, 2, 2), (0, 1, 1, 2, 2)]
        self.assert_lack(yard, guests, 0)
        self.assertEqual(best_filling(yard, guests), [[0, 0, 2], [2, 0, 0], [0, 2, 0]])

    def test_who_shares_no_narrow_turn_is_not_in_the_set(self):
        # What lacks lacks at turn 0, to two that are there then alone; guest 2 is filled at turn 1.
        yard = (2, ((None, (4, 9)),))
        guests = [(0, 0, 0, 3, 3), (0, 0, 0, 3, 3), (0, 1, 1, 9, 9)]
        self.assert_lack(yard, guests, 2)
        self.assertEqual(lacking_set(yard, guests), [0, 1])

    def test_lines_beneath_lines(self):
        # Of guests 1 to 4, who want 19, line 1 lets through 5, 6 and 3 (line 3 is narrow then), and line 2 lets 2.
        self.assert_lack(DEEP, DEEP_GUESTS, 3)
        self.assertEqual(plain_short(DEEP, DEEP_GUESTS, [1, 2, 3, 4]), 3)
        # Line 1 lets through 19 up to turn 6; turn 7 is all that guest 1 has.
        self.assert_lack(EIGHT_TURNS, [(1, 0, 7, 19, 9), (0, 7, 7, TOP, TOP)], 0)
        self.assert_lack(EIGHT_TURNS, [(1, 0, 7, 24, 9), (0, 7, 7, TOP, TOP)], 5)
        self.assert_lack(EIGHT_TURNS, [(1, 0, 7, 27, 9)], 0)

    def test_each_small_one_by_trying_all_fillings(self):
        lacks = {}
        for yard, guests in small_cases(21, 300):
            lack = plain_lack(yard, guests)
            self.assert_lack(yard, guests, lack)
            lacks[lack] = True
        self.assertTrue({0, 1, 2, 3, 4} <= set(lacks))

    def test_each_made_up_one_by_trying_all_sets(self):
        for greatest in (2, 9, TOP):
            for _, yard, guests in made_cases(22, 40, greatest):
                self.assert_lack(yard, guests, max(plain_short(yard, guests, some) for some in all_sets(guests)))

    def test_all_are_filled_where_all_can_be(self):
        for greatest in (3, 9, TOP):
            for yard, guests in filled_cases(23, 60, greatest):
                self.assert_lack(yard, guests, 0)
                self.assertEqual([sum(takes) for takes in best_filling(yard, guests)], [guest[3] for guest in guests])

    def test_the_greatest_numbers(self):
        yard = (2, ((None, (TOP, TOP)), (0, (TOP, 1))))
        self.assert_lack(yard, [(1, 0, 1, TOP, TOP), (0, 1, 1, TOP, TOP)], 0)
        self.assert_lack(yard, [(1, 0, 1, TOP, TOP), (1, 0, 1, TOP, 1), (0, 1, 1, TOP, TOP)], TOP)
        self.assert_lack(yard, [(0, 0, 1, TOP, TOP)] * 8, 6 * TOP)

    def test_times(self):
        for _, yard, guests in made_cases(24, 30):
            for k in (3, 10 ** 270, 10 ** 299 - 1):
                self.assert_lack(yard_times(yard, k), guests_times(guests, k), least_lack(yard, guests) * k)

    def test_somewhat_more_than_the_bounds(self):
        turns, lines = 10, [(None, (40,) * 10)] + [(line, (7,) * 10) for line in range(9)]
        guests = [(number, 0, 9, 10, 1) for number in range(10)]
        self.assert_lack((turns, tuple(lines)), guests, 20)


class OwnedTest(unittest.TestCase):
    def test_nothing_handed_in_is_changed(self):
        guests = list(DEEP_GUESTS)
        for tell in (least_lack, best_filling, lacking_set):
            tell(DEEP, guests)
            self.assertEqual(guests, DEEP_GUESTS)

    def test_told_lists_are_the_askers_own(self):
        guests = list(DEEP_GUESTS)
        filling, some = best_filling(DEEP, guests), lacking_set(DEEP, guests)
        self.assertEqual(len({id(takes) for takes in filling}), len(guests))
        kept = copy.deepcopy((filling, some))
        guests.clear()
        best_filling(DEEP, DEEP_GUESTS)
        lacking_set(ONE_LINE, [])
        self.assertEqual((filling, some), kept)
        for takes in filling:
            takes.clear()
        filling.clear()
        some.append(9)
        self.assertEqual(sum(sum(takes) for takes in best_filling(DEEP, DEEP_GUESTS)), 22)
        self.assertEqual(plain_short(DEEP, DEEP_GUESTS, lacking_set(DEEP, DEEP_GUESTS)), 3)

    def test_told_lists_without_guests(self):
        best_filling(ONE_LINE, []).append([1])
        lacking_set(ONE_LINE, []).append(1)
        self.assertEqual(best_filling(ONE_LINE, []), [])
        self.assertEqual(lacking_set(ONE_LINE, []), [])


if __name__ == "__main__":
    unittest.main()
