import unittest

from chargeyard.yards import (
    guests_times, is_guest, is_yard, lines_beneath, staying_from, way_up, with_bound, with_want, yard_times,
)
from samples import DEEP, DEEP_GUESTS, EIGHT_TURNS, ONE_LINE, TOP, is_beneath, made_cases

# What is neither a yard nor a guest nor a part of one.
ODD_THINGS = (None, True, False, 0, 1, -1, 1.0, "", "yard", b"yard", [], (), {}, set(), (1,), (None,), object(), int)


class Odd:
    """Likened to anything it says yes, so only its kind can tell it."""

    def __eq__(self, other):
        return True

    def __hash__(self):
        return 0


class IsYardTest(unittest.TestCase):
    def assert_yard(self, thing):
        self.assertIs(is_yard(thing), True, thing)

    def assert_no_yard(self, thing):
        self.assertIs(is_yard(thing), False, thing)

    def test_yards(self):
        for yard in (ONE_LINE, DEEP, EIGHT_TURNS):
            self.assert_yard(yard)
        for _, yard, _ in made_cases(1, 100, TOP):
            self.assert_yard(yard)

    def test_anything(self):
        for thing in ODD_THINGS + (Odd(),):
            self.assert_no_yard(thing)

    def test_its_parts(self):
        for thing in (None, True, False, 0, -1, 1.0, "1", [], (), {}, (1, 2), object(), Odd()):
            self.assert_no_yard((thing, ((None, (5,)),)))
            self.assert_no_yard((1, thing))
            self.assert_no_yard((1, (thing,)))
            self.assert_no_yard((1, ((None, thing),)))

    def test_a_bound_of_another_kind(self):
        for thing in (None, True, False, 1.0, "1", [1], (1,), Odd()):
            self.assert_no_yard((1, ((None, (thing,)),)))
            self.assert_no_yard((2, ((None, (1, 1)), (0, (1, thing)))))

    def test_lists_in_the_place_of_tuples(self):
        self.assert_no_yard([1, ((None, (5,)),)])
        self.assert_no_yard((1, [(None, (5,))]))
        self.assert_no_yard((1, ([None, (5,)],)))
        self.assert_no_yard((1, ((None, [5]),)))

    def test_tuples_of_another_length(self):
        self.assert_no_yard((1,))
        self.assert_no_yard(ONE_LINE + (1,))
        self.assert_no_yard((1, ((None,),)))
        self.assert_no_yard((1, ((None, (5,), 0),)))

    def test_turns(self):
        for turns in range(1, 9):
            self.assert_yard((turns, ((None, (5,) * turns),)))
        for turns in (-1, 0, 9, 10 ** 30):
            self.assert_no_yard((turns, ((None, (5,) * min(turns, 9)),)))
        self.assert_no_yard((True, ((None, (5,)),)))

    def test_bounds_are_as_many_as_turns(self):
        self.assert_no_yard((1, ((None, ()),)))
        self.assert_no_yard((2, ((None, (5,)),)))
        self.assert_no_yard((2, ((None, (5, 5, 5)),)))
        self.assert_no_yard((2, ((None, (5, 5)), (0, (5,)))))

    def test_bounds(self):
        for bound in (0, 1, TOP):
            self.assert_yard((1, ((None, (bound,)),)))
        for bound in (-1, TOP + 1, 10 ** 300):
            self.assert_no_yard((1, ((None, (bound,)),)))
            self.assert_no_yard((1, ((None, (1,)), (0, (bound,)))))

    def test_how_many_lines(self):
        for count in range(1, 6):
            self.assert_yard((1, ((None, (5,)),) + ((0, (5,)),) * (count - 1)))
        self.assert_no_yard((1, ()))
        self.assert_no_yard((1, ((None, (5,)),) + ((0, (5,)),) * 5))

    def test_above_of_the_first_line(self):
        for above in (0, 1, -1, False, "-", (), Odd()):
            self.assert_no_yard((1, ((above, (5,)),)))

    def test_above_of_another_line(self):
        first = (None, (5,))
        self.assert_yard((1, (first, (0, (5,)), (1, (5,)))))
        for above in (None, True, False, -1, 2, 3, 1.0, "1", Odd()):
            self.assert_no_yard((1, (first, (0, (5,)), (above, (5,)))))


class IsGuestTest(unittest.TestCase):
    def assert_guest(self, yard, thing):
        self.assertIs(is_guest(yard, thing), True, thing)

    def assert_no_guest(self, yard, thing):
        self.assertIs(is_guest(yard, thing), False, thing)

    def test_guests(self):
        for guest in DEEP_GUESTS:
            self.assert_guest(DEEP, guest)
        self.assert_guest(EIGHT_TURNS, (1, 0, 7, 5, 5))
        for _, yard, guests in made_cases(2, 100, TOP):
            for guest in guests:
                self.assert_guest(yard, guest)

    def test_anything(self):
        for thing in ODD_THINGS + (Odd(), [0, 0, 0, 1, 1], (0, 0, 0, 1), (0, 0, 0, 1, 1, 1)):
            self.assert_no_guest(DEEP, thing)

    def test_its_parts(self):
        for place in range(5):
            for thing in (None, True, False, 1.0, "1", [1], (1,), Odd(), -1, TOP + 1):
                guest = [1, 1, 1, 1, 1]
                guest[place] = thing
                self.assert_no_guest(DEEP, tuple(guest))

    def test_line(self):
        self.assert_guest(DEEP, (0, 0, 0, 1, 1))
        self.assert_guest(DEEP, (4, 0, 0, 1, 1))
        self.assert_no_guest(DEEP, (5, 0, 0, 1, 1))
        self.assert_no_guest(ONE_LINE, (1, 0, 0, 1, 1))

    def test_first_and_last(self):
        for first in range(-1, 5):
            for last in range(-1, 5):
                self.assertIs(is_guest(DEEP, (0, first, last, 1, 1)), 0 <= first <= last <= 2)

    def test_want_and_most(self):
        for number, is_one in ((-1, False), (0, False), (1, True), (TOP, True), (TOP + 1, False)):
            self.assertIs(is_guest(DEEP, (0, 0, 0, number, 1)), is_one)
            self.assertIs(is_guest(DEEP, (0, 0, 0, 1, number)), is_one)


class BeneathTest(unittest.TestCase):
    def test_lines_beneath(self):
        self.assertEqual(lines_beneath(ONE_LINE, 0), [0])
        told = [lines_beneath(DEEP, line) for line in range(5)]
        self.assertEqual(told, [[0, 1, 2, 3, 4], [1, 3, 4], [2], [3, 4], [4]])

    def test_way_up(self):
        self.assertEqual(way_up(ONE_LINE, 0), [0])
        told = [way_up(DEEP, line) for line in range(5)]
        self.assertEqual(told, [[0], [1, 0], [2, 0], [3, 1, 0], [4, 3, 1, 0]])

    def test_one_beneath_the_other(self):
        yard = (1, ((None, (1,)), (0, (1,)), (1, (1,)), (2, (1,)), (3, (1,))))
        self.assertEqual(lines_beneath(yard, 1), [1, 2, 3, 4])
        self.assertEqual(way_up(yard, 4), [4, 3, 2, 1, 0])

    def test_made_up_ones(self):
        for _, yard, _ in made_cases(3, 100):
            lines = range(len(yard[1]))
            for line in lines:
                self.assertEqual(lines_beneath(yard, line), [k for k in lines if is_beneath(yard, k, line)])
                self.assertEqual(way_up(yard, line), [k for k in reversed(lines) if is_beneath(yard, line, k)])


class TimesTest(unittest.TestCase):
    def test_a_yard_times(self):
        self.assertEqual(yard_times(ONE_LINE, 1), ONE_LINE)
        self.assertEqual(yard_times(ONE_LINE, 3), (1, ((None, (15,)),)))
        yard = (2, ((None, (1, 0)), (0, (2, TOP)), (1, (3, 4))))
        self.assertEqual(yard_times(yard, 7), (2, ((None, (7, 0)), (0, (14, 7 * TOP)), (1, (21, 28)))))

    def test_guests_times(self):
        self.assertEqual(guests_times([], 5), [])
        self.assertEqual(guests_times(DEEP_GUESTS, 1), DEEP_GUESTS)
        self.assertEqual(guests_times([(1, 0, 2, 3, 4), (0, 1, 1, 1, TOP)], 5), [(1, 0, 2, 15, 20), (0, 1, 1, 5, 5 * TOP)])

    def test_three_hundred_figures(self):
        k = 10 ** 270
        told = yard_times(yard_times((1, ((None, (TOP,)),)), 10 ** 135), 10 ** 135)
        self.assertEqual(told, (1, ((None, (TOP * k,)),)))
        self.assertEqual(guests_times([(0, 0, 0, TOP, TOP)], k), [(0, 0, 0, TOP * k, TOP * k)])

    def test_a_number_of_three_hundred_figures(self):
        k = 10 ** 300 - 1
        self.assertEqual(yard_times((2, ((None, (1, 0)),)), k), (2, ((None, (k, 0)),)))
        self.assertEqual(guests_times([(0, 0, 0, 1, 1)], k), [(0, 0, 0, k, k)])

    def test_the_kinds(self):
        told = yard_times(DEEP, 2)
        self.assertTrue(is_yard(told))
        self.assertTrue(all(is_guest(told, guest) for guest in guests_times(DEEP_GUESTS, 2)))
        self.assertIsInstance(guests_times(DEEP_GUESTS, 2), list)

    def test_lines_of_a_yard_with_great_numbers(self):
        great = yard_times(DEEP, 10 ** 290)
        self.assertEqual(lines_beneath(great, 1), [1, 3, 4])
        self.assertEqual(way_up(great, 4), [4, 3, 1, 0])


class ChangedTest(unittest.TestCase):
    def test_another_want(self):
        self.assertEqual(with_want((1, 2, 3, 4, 5), 9), (1, 2, 3, 9, 5))
        self.assertEqual(with_want((1, 2, 3, 4, 5), 0), (1, 2, 3, 0, 5))

    def test_staying_from_a_turn_on(self):
        for turn, first in ((0, 2), (1, 2), (2, 2), (3, 3), (4, 4), (8, 8)):
            self.assertEqual(staying_from((1, 2, 3, 4, 5), turn), (1, first, 3, 4, 5))

    def test_another_bound(self):
        self.assertEqual(with_bound(ONE_LINE, 0, 0, 7), (1, ((None, (7,)),)))
        for source, yard, _ in made_cases(6, 30):
            line, turn = source.randrange(len(yard[1])), source.randrange(yard[0])
            changed = with_bound(yard, line, turn, TOP)
            self.assertTrue(is_yard(changed))
            self.assertEqual(changed[1][line][1][turn], TOP)
            self.assertEqual(with_bound(changed, line, turn, yard[1][line][1][turn]), yard)


class OwnedTest(unittest.TestCase):
    def test_told_lists_are_the_askers_own(self):
        for tell in (lambda: lines_beneath(DEEP, 1), lambda: way_up(DEEP, 4), lambda: guests_times(DEEP_GUESTS, 1)):
            told = tell()
            kept = list(told)
            told.append(None)
            told[0] = None
            self.assertEqual(tell(), kept)

    def test_handed_in_guests_stay(self):
        guests = list(DEEP_GUESTS)
        told = guests_times(guests, 1)
        told.clear()
        self.assertEqual(guests, DEEP_GUESTS)
        told = guests_times(guests, 4)
        guests.clear()
        self.assertEqual(len(told), len(DEEP_GUESTS))


if __name__ == "__main__":
    unittest.main()
