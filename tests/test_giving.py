import copy
import itertools
import unittest

from chargeyard.fillings import fault_of, lacks_of, totals_of
from chargeyard.giving import cuts_of, given_at, given_most, short_of
from chargeyard.yards import guests_times, yard_times
from plain import plain_given, plain_reach
from samples import DEEP, DEEP_GUESTS, EIGHT_TURNS, ONE_LINE, TOP, all_sets, is_beneath, made_cases, made_filling


def plain_cuts(yard, guests, some, turn):
    lines = range(len(yard[1]))
    narrow = [k for k in lines if plain_reach(yard, guests, some, k, turn) > yard[1][k][1][turn]]
    return [k for k in narrow if not any(k != upper and is_beneath(yard, k, upper) for upper in narrow)]


def given_by_cuts(yard, guests, some, turn, cuts):
    """The sum of the bounds of the cuts and of the mosts of those that are there and beneath none of them."""
    told = sum(yard[1][line][1][turn] for line in cuts)
    for line, first, last, _, most in [guests[n] for n in some]:
        if first <= turn <= last and not any(is_beneath(yard, line, cut) for cut in cuts):
            told += most
    return told


class GivenTest(unittest.TestCase):
    def test_one_line(self):
        self.assertEqual(given_at(ONE_LINE, [(0, 0, 0, 9, 3)], [0], 0), 3)
        self.assertEqual(given_at(ONE_LINE, [(0, 0, 0, 9, 5)], [0], 0), 5)
        self.assertEqual(given_at(ONE_LINE, [(0, 0, 0, 9, 6)], [0], 0), 5)
        self.assertEqual(given_at(ONE_LINE, [(0, 0, 0, 9, 3), (0, 0, 0, 9, 3)], [0, 1], 0), 5)

    def test_lines_beneath_lines(self):
        everyone = [0, 1, 2, 3, 4]
        self.assertEqual([given_at(DEEP, DEEP_GUESTS, everyone, turn) for turn in range(3)], [8, 8, 7])
        self.assertEqual(given_most(DEEP, DEEP_GUESTS, everyone), 23)
        self.assertEqual([given_at(DEEP, DEEP_GUESTS, [3, 4], turn) for turn in range(3)], [3, 3, 3])
        self.assertEqual([given_at(DEEP, DEEP_GUESTS, [4], turn) for turn in range(3)], [0, 0, 2])
        self.assertEqual([given_at(DEEP, DEEP_GUESTS, [1, 2], turn) for turn in range(3)], [4, 4, 2])
        self.assertEqual([given_at(DEEP, DEEP_GUESTS, [0, 2], turn) for turn in range(3)], [3, 3, 5])

    def test_the_want_bounds_nothing(self):
        self.assertEqual(given_most(EIGHT_TURNS, [(0, 0, 7, 1, 3)], [0]), 21)

    def test_first_and_last_turn(self):
        guests = [(1, 3, 5, 9, 9), (0, 7, 7, 1, TOP)]
        self.assertEqual([given_at(EIGHT_TURNS, guests, [0], turn) for turn in range(8)], [0, 0, 0, 4, 4, 4, 0, 0])
        self.assertEqual([given_at(EIGHT_TURNS, guests, [1], turn) for turn in range(8)], [0] * 7 + [TOP])
        self.assertEqual(given_most(EIGHT_TURNS, guests, [0, 1]), 12 + TOP)

    def test_the_empty_set(self):
        for yard, guests in ((ONE_LINE, []), (DEEP, DEEP_GUESTS)):
            self.assertEqual(given_most(yard, guests, []), 0)
            self.assertEqual(given_at(yard, guests, [], 0), 0)

    def test_a_bound_of_0(self):
        yard = (1, ((None, (0,)), (0, (TOP,))))
        self.assertEqual(given_most(yard, [(1, 0, 0, TOP, TOP)], [0]), 0)
        self.assertEqual(cuts_of(yard, [(1, 0, 0, TOP, TOP)], [0]), [[0]])

    def test_made_up_ones(self):
        for source, yard, guests in made_cases(6, 60):
            for some in source.sample(all_sets(guests), min(8, 2 ** len(guests))):
                told = [given_at(yard, guests, some, turn) for turn in range(yard[0])]
                plain = [plain_given(yard, guests, some, turn) for turn in range(yard[0])]
                self.assertEqual(told, plain)
                self.assertEqual(given_most(yard, guests, some), sum(plain))

    def test_no_filling_gives_more(self):
        for source, yard, guests in made_cases(7, 60):
            totals = totals_of(made_filling(source, yard, guests))
            for some in all_sets(guests):
                self.assertLessEqual(sum(totals[n] for n in some), given_most(yard, guests, some))

    def test_both_together_and_what_both_share(self):
        for source, yard, guests in made_cases(8, 60):
            sets = all_sets(guests)
            for one, other in [(source.choice(sets), source.choice(sets)) for _ in range(10)]:
                both = sorted(set(one) | set(other))
                shared = sorted(set(one) & set(other))
                apart = given_most(yard, guests, one) + given_most(yard, guests, other)
                self.assertLessEqual(given_most(yard, guests, both) + given_most(yard, guests, shared), apart)

    def test_reached_by_a_filling_where_wants_are_great(self):
        yard = (1, ((None, (4,)), (0, (2,)), (1, (1,))))
        guests = [(0, 0, 0, 9, 1), (1, 0, 0, 9, 3), (2, 0, 0, 9, 2)]
        for some in all_sets(guests):
            best = 0
            for takes in itertools.product(range(4), repeat=3):
                if fault_of(yard, guests, [[take] for take in takes]) is None:
                    best = max(best, sum(takes[n] for n in some))
            self.assertEqual(given_most(yard, guests, some), best)


class CutsTest(unittest.TestCase):
    def test_one_line(self):
        self.assertEqual(cuts_of(ONE_LINE, [(0, 0, 0, 9, 5)], [0]), [[]])
        self.assertEqual(cuts_of(ONE_LINE, [(0, 0, 0, 9, 6)], [0]), [[0]])

    def test_lines_beneath_lines(self):
        self.assertEqual(cuts_of(DEEP, DEEP_GUESTS, [0, 1, 2, 3, 4]), [[1], [0], [0]])
        self.assertEqual(cuts_of(DEEP, DEEP_GUESTS, [1, 2, 3, 4]), [[1], [1, 2], [3]])
        self.assertEqual(cuts_of(DEEP, DEEP_GUESTS, [2, 4]), [[], [2], [4]])
        self.assertEqual(cuts_of(DEEP, DEEP_GUESTS, [3, 4]), [[], [], [3]])
        self.assertEqual(cuts_of(DEEP, DEEP_GUESTS, [0]), [[], [], []])

    def test_narrow_is_told_by_what_passes_beneath(self):
        # Line 2 lets through just what line 1 bears, so line 1 isn't narrow.
        yard = (1, ((None, (9,)), (0, (3,)), (1, (3,))))
        self.assertEqual(cuts_of(yard, [(2, 0, 0, 9, 9)], [0]), [[2]])

    def test_beneath_a_narrow_line_with_one_between_that_is_not(self):
        yard = (1, ((None, (1,)), (0, (9,)), (1, (2,))))
        self.assertEqual(cuts_of(yard, [(2, 0, 0, 9, 9)], [0]), [[0]])

    def test_the_empty_set(self):
        self.assertEqual(cuts_of(EIGHT_TURNS, [], []), [[]] * 8)
        self.assertEqual(cuts_of(DEEP, DEEP_GUESTS, []), [[], [], []])

    def test_made_up_ones(self):
        for source, yard, guests in made_cases(9, 60):
            for some in source.sample(all_sets(guests), min(8, 2 ** len(guests))):
                told = cuts_of(yard, guests, some)
                self.assertEqual(told, [plain_cuts(yard, guests, some, turn) for turn in range(yard[0])])
                for turn, cuts in enumerate(told):
                    given = given_at(yard, guests, some, turn)
                    self.assertEqual(given_by_cuts(yard, guests, some, turn, cuts), given)


class ShortTest(unittest.TestCase):
    def test_shorts(self):
        self.assertEqual(short_of(DEEP, DEEP_GUESTS, [0, 1, 2, 3, 4]), 25 - 23)
        self.assertEqual(short_of(DEEP, DEEP_GUESTS, [4]), 1)
        self.assertEqual(short_of(ONE_LINE, [(0, 0, 0, 9, 5)], [0]), 4)
        self.assertEqual(short_of(ONE_LINE, [(0, 0, 0, 5, 5)], [0]), 0)

    def test_below_0(self):
        self.assertEqual(short_of(DEEP, DEEP_GUESTS, [0]), -3)
        self.assertEqual(short_of(EIGHT_TURNS, [(0, 7, 7, 1, TOP)], [0]), 1 - TOP)

    def test_the_empty_set(self):
        self.assertEqual(short_of(ONE_LINE, [], []), 0)
        self.assertEqual(short_of(DEEP, DEEP_GUESTS, []), 0)

    def test_lacks_come_to_the_short_at_least(self):
        for source, yard, guests in made_cases(10, 60):
            lack = sum(lacks_of(guests, made_filling(source, yard, guests)))
            for some in all_sets(guests):
                self.assertEqual(
                    short_of(yard, guests, some), sum(guests[n][3] for n in some) - given_most(yard, guests, some)
                )
                self.assertGreaterEqual(lack, short_of(yard, guests, some))


class GreatNumbersTest(unittest.TestCase):
    def test_the_greatest_numbers(self):
        yard = (1, ((None, (TOP,)), (0, (TOP,))))
        guests = [(1, 0, 0, TOP, TOP), (0, 0, 0, TOP, 1), (1, 0, 0, 1, TOP)]
        self.assertEqual(given_most(yard, guests, [0]), TOP)
        self.assertEqual(given_most(yard, guests, [0, 1]), TOP)
        self.assertEqual(short_of(yard, guests, [0, 1, 2]), TOP + 1)
        self.assertEqual(cuts_of(yard, guests, [0, 1]), [[0]])
        self.assertEqual(cuts_of(yard, guests, [0, 2]), [[1]])

    def test_times(self):
        for k in (1, 2, 10 ** 298):
            yard, guests = yard_times(DEEP, k), guests_times(DEEP_GUESTS, k)
            for some in all_sets(guests):
                self.assertEqual(given_most(yard, guests, some), given_most(DEEP, DEEP_GUESTS, some) * k)
                self.assertEqual(given_at(yard, guests, some, 1), given_at(DEEP, DEEP_GUESTS, some, 1) * k)
                self.assertEqual(short_of(yard, guests, some), short_of(DEEP, DEEP_GUESTS, some) * k)
                self.assertEqual(cuts_of(yard, guests, some), cuts_of(DEEP, DEEP_GUESTS, some))


class OwnedTest(unittest.TestCase):
    def test_nothing_handed_in_is_changed(self):
        guests, some = list(DEEP_GUESTS), [1, 3, 4]
        given_at(DEEP, guests, some, 0)
        given_most(DEEP, guests, some)
        short_of(DEEP, guests, some)
        cuts_of(DEEP, guests, some).clear()
        self.assertEqual(guests, DEEP_GUESTS)
        self.assertEqual(some, [1, 3, 4])

    def test_told_lists_are_the_askers_own(self):
        for some in ([], [0, 1, 2, 3, 4]):
            told = cuts_of(DEEP, DEEP_GUESTS, some)
            kept = copy.deepcopy(told)
            self.assertEqual(len({id(part) for part in told}), 3)
            for part in told:
                part.append(7)
            told.append([])
            self.assertEqual(cuts_of(DEEP, DEEP_GUESTS, some), kept)


if __name__ == "__main__":
    unittest.main()
