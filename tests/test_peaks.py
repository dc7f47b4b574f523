import copy
import unittest

from chargeyard.errors import NoRoom, YardError
from chargeyard.peaks import least_peak, yard_lowered
from chargeyard.yards import guests_times, is_yard, yard_times
from plain import plain_faults, plain_lowered, plain_peak, plain_short
from samples import (
    DEEP, DEEP_GUESTS, EIGHT_TURNS, ONE_LINE, TOP, all_sets, filled_cases, is_whole, made_cases, small_cases,
)


class LoweredTest(unittest.TestCase):
    def test_lowered(self):
        self.assertEqual(yard_lowered(ONE_LINE, 6), ONE_LINE)
        self.assertEqual(yard_lowered(ONE_LINE, 5), ONE_LINE)
        self.assertEqual(yard_lowered(ONE_LINE, 4), (1, ((None, (4,)),)))
        self.assertEqual(yard_lowered(ONE_LINE, 0), (1, ((None, (0,)),)))

    def test_at_each_turn_and_line_0_alone(self):
        self.assertEqual(yard_lowered(DEEP, 8), (3, ((None, (8, 8, 7)),) + DEEP[1][1:]))
        self.assertEqual(yard_lowered(DEEP, 1), (3, ((None, (1, 1, 1)),) + DEEP[1][1:]))
        self.assertEqual(yard_lowered(EIGHT_TURNS, 5), (8, ((None, (4, 4, 0, 4, 4, 4, 4, 5)), EIGHT_TURNS[1][1])))

    def test_great_numbers(self):
        self.assertEqual(yard_lowered(EIGHT_TURNS, TOP), EIGHT_TURNS)
        self.assertEqual(yard_lowered(EIGHT_TURNS, TOP - 1)[1][0], (None, (4, 4, 0, 4, 4, 4, 4, TOP - 1)))
        self.assertEqual(yard_lowered(DEEP, 10 ** 300), DEEP)
        great = yard_times(DEEP, 10 ** 290)
        self.assertEqual(yard_lowered(great, 8 * 10 ** 290), yard_times(yard_lowered(DEEP, 8), 10 ** 290))

    def test_made_up_ones(self):
        for source, yard, _ in made_cases(30, 60):
            p = source.randint(0, 10)
            self.assertEqual(yard_lowered(yard, p), plain_lowered(yard, p))
            self.assertTrue(is_yard(yard_lowered(yard, p)))


class PeakTest(unittest.TestCase):
    def assert_told(self, yard, guests):
        """That what is told fills all by its peak and shows that one less doesn't: so no other one is the least."""
        told = least_peak(yard, guests)
        self.assertIsInstance(told, tuple)
        p, filling, some = told
        self.assertTrue(is_whole(p) and p >= 0)
        self.assertEqual(len(filling), len(guests))
        self.assertEqual([type(takes) for takes in filling], [list] * len(guests))
        self.assertEqual([len(takes) for takes in filling], [yard[0]] * len(guests))
        self.assertTrue(all(is_whole(take) for takes in filling for take in takes))
        self.assertEqual(plain_faults(plain_lowered(yard, p), guests, filling), [])
        self.assertEqual([sum(takes) for takes in filling], [guest[3] for guest in guests])
        self.assertIn(some, all_sets(guests))
        if p == 0:
            self.assertEqual(some, [])
        else:
            self.assertGreater(plain_short(plain_lowered(yard, p - 1), guests, some), 0)
        return p

    def assert_peak(self, yard, guests, p):
        self.assertEqual(self.assert_told(yard, guests), p)

    def assert_refused(self, yard, guests):
        with self.assertRaises(NoRoom) as caught:
            least_peak(yard, guests)
        self.assertIsInstance(caught.exception, YardError)
        self.assertIsInstance(caught.exception.some, list)
        self.assertIn(caught.exception.some, all_sets(guests))
        self.assertGreater(plain_short(yard, guests, caught.exception.some), 0)

    def test_no_guests(self):
        for yard in (ONE_LINE, DEEP, EIGHT_TURNS, (1, ((None, (0,)),))):
            self.assertEqual(least_peak(yard, []), (0, [], []))

    def test_one_turn(self):
        self.assertEqual(least_peak(ONE_LINE, [(0, 0, 0, 1, 1)]), (1, [[1]], [0]))
        self.assertEqual(least_peak(ONE_LINE, [(0, 0, 0, 5, 9)]), (5, [[5]], [0]))
        self.assertEqual(least_peak(ONE_LINE, [(0, 0, 0, 2, 2), (0, 0, 0, 3, 3)]), (5, [[2], [3]], [0, 1]))

    def test_refused(self):
        self.assert_refused(ONE_LINE, [(0, 0, 0, 6, 9)])
        self.assert_refused(ONE_LINE, [(0, 0, 0, 5, 4)])
        self.assert_refused((1, ((None, (0,)),)), [(0, 0, 0, 1, 1)])
        self.assert_refused((1, ((None, (9,)), (0, (0,)))), [(0, 0, 0, 1, 1), (1, 0, 0, 1, 1)])
        self.assert_refused(DEEP, DEEP_GUESTS)
        with self.assertRaises(NoRoom) as caught:
            least_peak(DEEP, [(0, 0, 2, 1, 1), (4, 0, 2, 6, 9)])
        self.assertEqual(caught.exception.some, [1])

    def test_spread_over_the_turns(self):
        yard = (4, ((None, (9, 9, 9, 9)),))
        self.assert_peak(yard, [(0, 0, 3, 8, 9)], 2)
        self.assert_peak(yard, [(0, 0, 3, 9, 9)], 3)
        self.assert_peak(yard, [(0, 0, 3, 8, 9), (0, 2, 2, 5, 5)], 5)
        self.assert_peak(yard, [(0, 0, 3, 8, 9), (0, 2, 3, 5, 5)], 4)
        self.assert_peak(yard, [(0, 0, 3, 36, 9)], 9)

    def test_turns_that_bear_less(self):
        # Turn by turn fewer are left to be raised: 1, 2, 3 and 4 are full ahead of the rest.
        yard = (5, ((None, (1, 2, 3, 4, 99)),))
        for want, p in ((5, 1), (6, 2), (9, 2), (10, 3), (12, 3), (13, 4), (14, 4), (15, 5), (109, 99)):
            self.assert_peak(yard, [(0, 0, 4, want, 99)], p)
        self.assert_refused(yard, [(0, 0, 4, 110, 99)])

    def test_lines_beneath_hold_back(self):
        yard = (2, ((None, (9, 9)), (0, (1, 9))))
        self.assert_peak(yard, [(1, 0, 1, 8, 9)], 7)
        self.assert_peak(yard, [(1, 0, 1, 8, 9), (0, 0, 0, 6, 6)], 7)
        self.assert_peak(yard, [(1, 0, 1, 8, 9), (0, 0, 0, 7, 7)], 8)

    def test_each_small_one_by_trying_all_peaks_and_fillings(self):
        peaks = {}
        for yard, guests in small_cases(31, 300):
            p = plain_peak(yard, guests)
            peaks[p] = True
            if p is None:
                self.assert_refused(yard, guests)
            else:
                self.assert_peak(yard, guests, p)
        self.assertEqual(set(peaks), {None, 0, 1, 2, 3, 4})

    def test_made_up_ones(self):
        for greatest in (3, 9, 1000, TOP):
            for yard, guests in filled_cases(32, 60, greatest):
                self.assert_told(yard, guests)

    def test_made_up_ones_are_told_or_refused(self):
        for greatest in (2, 9, TOP):
            for _, yard, guests in made_cases(33, 40, greatest):
                if max(plain_short(yard, guests, some) for some in all_sets(guests)) > 0:
                    self.assert_refused(yard, guests)
                else:
                    self.assert_told(yard, guests)

    def test_the_greatest_numbers(self):
        yard = (2, ((None, (TOP, TOP)),))
        self.assert_peak(yard, [(0, 0, 1, TOP, TOP)], TOP // 2 + 1)
        self.assert_peak(yard, [(0, 0, 1, TOP, TOP)] * 2, TOP)
        self.assert_peak(yard, [(0, 0, 1, TOP - 1, 10 ** 29 * 7)], TOP // 2)
        self.assert_refused(yard, [(0, 0, 1, TOP, TOP)] * 2 + [(0, 0, 0, 1, 1)])

    def test_times(self):
        k = 10 ** 270
        for yard, guests in filled_cases(34, 40, TOP):
            p, great = least_peak(yard, guests)[0], (yard_times(yard, k), guests_times(guests, k))
            # Parted finer the peak may be less, but by less than one.
            self.assertTrue(p == 0 or (p - 1) * k < self.assert_told(*great) <= p * k)
        self.assert_refused(yard_times(DEEP, k), guests_times(DEEP_GUESTS, k))
        self.assert_peak(yard_times(ONE_LINE, k), guests_times([(0, 0, 0, 2, 2)], k), 2 * k)


class OwnedTest(unittest.TestCase):
    GUESTS = [(0, 0, 2, 6, 3), (3, 0, 2, 5, 3), (1, 0, 1, 3, 3)]

    def test_nothing_handed_in_is_changed(self):
        guests = list(self.GUESTS)
        least_peak(DEEP, guests)
        self.assertEqual(guests, self.GUESTS)
        lacking = list(DEEP_GUESTS)
        with self.assertRaises(NoRoom):
            least_peak(DEEP, lacking)
        self.assertEqual(lacking, DEEP_GUESTS)

    def test_told_lists_are_the_askers_own(self):
        guests = list(self.GUESTS)
        told = least_peak(DEEP, guests)
        kept = copy.deepcopy(told)
        guests.clear()
        least_peak(DEEP, self.GUESTS)
        self.assertEqual(told, kept)
        for takes in told[1]:
            takes.append(9)
        told[1].clear()
        told[2].append(9)
        self.assertEqual(least_peak(DEEP, self.GUESTS)[0], kept[0])
        self.assertEqual([sum(takes) for takes in least_peak(DEEP, self.GUESTS)[1]], [6, 5, 3])

    def test_told_lists_without_guests(self):
        told = least_peak(DEEP, [])
        told[1].append([1])
        told[2].append(1)
        self.assertEqual(least_peak(DEEP, []), (0, [], []))


if __name__ == "__main__":
    unittest.main()
