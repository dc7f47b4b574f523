import copy
import random
import unittest
from fractions import Fraction

from chargeyard.fairness import fair_levels, fairest, is_fairest
from chargeyard.fractions import is_fairer
from chargeyard.yards import guests_times, yard_times
from plain import all_totals, plain_faults, plain_given_all, plain_shares
from samples import (
    DEEP, DEEP_GUESTS, EIGHT_TURNS, ONE_LINE, TOP, all_sets, filled_cases, is_whole, made_cases, made_filling,
    made_guests, made_yard, small_cases,
)

# Primes of thirty figures, or thirty-one, so that few bottoms share a divisor.
GREAT_PRIMES = (10 ** 29 + 319, 10 ** 30 - 11, 10 ** 30 - 17, 10 ** 30 + 57)


def shares_told(yard, guests):
    shares = {}
    for share, some in fair_levels(yard, guests):
        shares.update({number: share for number in some})
    return [shares[number] for number in range(len(guests))]


def as_pairs(shares):
    return [(share.numerator, share.denominator) for share in shares]


def shares_by(guests, k, totals):
    return as_pairs([Fraction(total, k * guest[3]) for total, guest in zip(totals, guests)])


def tiny_cases(seed, count):
    """So small that every filling can be tried also of the yard and guests times a small number."""
    source = random.Random(seed)
    for _ in range(count):
        yard = made_yard(source, 3, 2, 3)
        yield yard, made_guests(source, yard, 3, 2)


class FairTest(unittest.TestCase):
    def assert_levels(self, yard, guests):
        """That the levels have the form asked for, and that each with a share below 1 gets all that it can."""
        levels = fair_levels(yard, guests)
        self.assertIsInstance(levels, list)
        ahead, got, below = [], 0, Fraction(-1)
        for level in levels:
            self.assertIsInstance(level, tuple)
            share, some = level
            self.assertIsInstance(share, tuple)
            self.assertTrue(all(is_whole(part) for part in share))
            self.assertEqual(as_pairs([Fraction(*share)]), [share])
            self.assertTrue(below < Fraction(*share) <= 1)
            self.assertIn(some, all_sets(guests)[1:])
            below, ahead = Fraction(*share), sorted(ahead + some)
            got += below * sum(guests[number][3] for number in some)
            if below < 1:
                self.assertEqual(got, plain_given_all(yard, guests, ahead))
        self.assertEqual(ahead, list(range(len(guests))))

    def assert_told(self, yard, guests):
        """That the filling told is one in parts by which each guest has its share."""
        self.assert_levels(yard, guests)
        told = fairest(yard, guests)
        self.assertIsInstance(told, tuple)
        k, filling = told
        self.assertTrue(is_whole(k) and k >= 1)
        self.assertEqual([type(takes) for takes in filling], [list] * len(guests))
        self.assertEqual([len(takes) for takes in filling], [yard[0]] * len(guests))
        self.assertTrue(all(is_whole(take) for takes in filling for take in takes))
        self.assertEqual(plain_faults(yard_times(yard, k), guests_times(guests, k), filling), [])
        self.assertEqual(shares_by(guests, k, [sum(takes) for takes in filling]), shares_told(yard, guests))
        self.assertIs(is_fairest(yard, guests, k, filling), True)
        return k

    def assert_fair(self, yard, guests, levels):
        self.assertEqual(fair_levels(yard, guests), levels)
        self.assert_told(yard, guests)

    def test_no_guests(self):
        for yard in (ONE_LINE, DEEP, EIGHT_TURNS, (1, ((None, (0,)),))):
            self.assertEqual(fair_levels(yard, []), [])
            k, filling = fairest(yard, [])
            self.assertTrue(is_whole(k) and k >= 1)
            self.assertEqual(filling, [])
            self.assertIs(is_fairest(yard, [], 1, []), True)
            self.assertIs(is_fairest(yard, [], 10 ** 250, []), True)

    def test_one_guest(self):
        self.assert_fair(ONE_LINE, [(0, 0, 0, 4, 4)], [((1, 1), [0])])
        self.assert_fair(ONE_LINE, [(0, 0, 0, 5, 5)], [((1, 1), [0])])
        self.assert_fair(ONE_LINE, [(0, 0, 0, 10, 9)], [((1, 2), [0])])
        self.assert_fair(ONE_LINE, [(0, 0, 0, 6, 2)], [((1, 3), [0])])

    def test_bounds_of_0(self):
        shut = (2, ((None, (0, 0)),))
        self.assert_fair(shut, [(0, 0, 1, 7, 7)], [((0, 1), [0])])
        self.assert_fair(shut, [(0, 0, 1, 7, 7), (0, 1, 1, TOP, TOP)], [((0, 1), [0, 1])])
        yard = (2, ((None, (9, 9)), (0, (0, 0))))
        guests = [(0, 0, 1, 20, 20), (1, 0, 1, 3, 3), (0, 0, 0, 1, 1), (1, 1, 1, 5, 5)]
        self.assert_fair(yard, guests, [((0, 1), [1, 3]), ((6, 7), [0, 2])])
        yard = (1, ((None, (9,)), (0, (0,))))
        self.assert_fair(yard, [(1, 0, 0, 3, 3), (0, 0, 0, 3, 3)], [((0, 1), [0]), ((1, 1), [1])])

    def test_by_shares_of_what_is_wanted(self):
        self.assert_fair(ONE_LINE, [(0, 0, 0, 9, 9), (0, 0, 0, 3, 3)], [((5, 12), [0, 1])])
        self.assert_fair(ONE_LINE, [(0, 0, 0, 3, 3)] * 3, [((5, 9), [0, 1, 2])])
        self.assert_fair(ONE_LINE, [(0, 0, 0, 2, 2), (0, 0, 0, 3, 3)], [((1, 1), [0, 1])])
        # Guest 0 takes 1 at most, so the other one gets more than its share of all.
        self.assert_fair(ONE_LINE, [(0, 0, 0, 5, 1), (0, 0, 0, 5, 5)], [((1, 5), [0]), ((4, 5), [1])])

    def test_one_that_stays_longer_makes_way(self):
        yard = (2, ((None, (4, 4)),))
        self.assert_fair(yard, [(0, 0, 0, 4, 4), (0, 0, 1, 8, 8)], [((2, 3), [0, 1])])
        self.assert_fair(yard, [(0, 0, 0, 4, 4), (0, 0, 1, 4, 4)], [((1, 1), [0, 1])])
        self.assert_fair(yard, [(0, 0, 0, 8, 8), (0, 0, 1, 4, 4)], [((1, 2), [0]), ((1, 1), [1])])
        self.assert_fair(yard, [(0, 0, 0, 6, 6), (0, 0, 0, 6, 6), (0, 1, 1, 9, 9)], [((1, 3), [0, 1]), ((4, 9), [2])])

    def test_equal_shares_of_sets_apart_are_one_level(self):
        yard = (2, ((None, (9, 9)), (0, (2, 2)), (0, (3, 3))))
        guests = [(1, 0, 0, 4, 4), (2, 1, 1, 6, 6), (0, 0, 0, 3, 3), (1, 1, 1, 4, 4), (2, 0, 0, 8, 8)]
        self.assert_fair(yard, guests, [((3, 8), [4]), ((1, 2), [0, 1, 3]), ((1, 1), [2])])

    def test_as_many_levels_as_guests(self):
        yard = (8, ((None, (1, 2, 3, 4, 5, 6, 7, 8)),))
        guests = [(0, turn, turn, 8, 8) for turn in range(8)]
        levels = [((1, 8), [0]), ((1, 4), [1]), ((3, 8), [2]), ((1, 2), [3]), ((5, 8), [4]), ((3, 4), [5])]
        self.assert_fair(yard, guests, levels + [((7, 8), [6]), ((1, 1), [7])])
        order = [3, 0, 7, 5, 1, 6, 2, 4]
        self.assert_told(yard, [guests[number] for number in order])

    def test_lines_beneath_lines(self):
        self.assertEqual(shares_told(DEEP, DEEP_GUESTS), as_pairs(plain_shares(DEEP, DEEP_GUESTS)))
        self.assert_told(DEEP, DEEP_GUESTS)

    def test_no_filling_in_parts_is_fairer_by_trying_all(self):
        lists = {}
        for yard, guests in tiny_cases(50, 150):
            shares = shares_told(yard, guests)
            k_told = self.assert_told(yard, guests)
            for k in {1, 2, 3, min(k_told, 6)}:
                tried = [shares_by(guests, k, totals)
                         for totals in all_totals(yard_times(yard, k), guests_times(guests, k))]
                for other in tried:
                    self.assertFalse(is_fairer(other, shares))
                if k == k_told:
                    self.assertIn(shares, tried)
            lists[str(shares)] = True
        self.assertGreater(len(lists), 20)

    def test_no_whole_filling_of_three_is_fairer_by_trying_all(self):
        for yard, guests in small_cases(51, 120):
            shares = shares_told(yard, guests)
            self.assert_told(yard, guests)
            for totals in all_totals(yard, guests):
                self.assertFalse(is_fairer(shares_by(guests, 1, totals), shares))

    def test_the_shares_of_made_up_ones_by_trying_all_sets(self):
        for greatest in (2, 9, TOP):
            for _, yard, guests in made_cases(52, 12, greatest):
                self.assertEqual(shares_told(yard, guests), as_pairs(plain_shares(yard, guests)))
                self.assert_told(yard, guests)

    def test_all_have_1_where_all_can_be_filled(self):
        for yard, guests in filled_cases(53, 40):
            self.assertEqual(fair_levels(yard, guests), [((1, 1), list(range(len(guests))))] if guests else [])
            k, filling = fairest(yard, guests)
            self.assertEqual([sum(takes) for takes in filling], [k * guest[3] for guest in guests])

    def test_other_fillings_are_not_fairer(self):
        for source, yard, guests in made_cases(54, 60):
            totals = [sum(takes) for takes in made_filling(source, yard, guests)]
            self.assertFalse(is_fairer(shares_by(guests, 1, totals), shares_told(yard, guests)))

    def test_times(self):
        for _, yard, guests in made_cases(55, 15):
            for k in (3, 10 ** 269):
                great, many = yard_times(yard, k), guests_times(guests, k)
                self.assertEqual(fair_levels(great, many), fair_levels(yard, guests))
                self.assert_told(great, many)

    def test_somewhat_more_than_the_bounds(self):
        yard = (10, ((None, (40,) * 10),) + tuple((line, (7,) * 10) for line in range(9)))
        self.assert_fair(yard, [(number, 0, 9, 10, 1) for number in range(10)], [((7, 9), list(range(1, 10))),
                                                                              ((1, 1), [0])])


class FiguresTest(unittest.TestCase):
    def assert_figures(self, yard, guests):
        k, filling = fairest(yard, guests)
        self.assertLess(k, 10 ** 260)
        self.assertEqual(plain_faults(yard_times(yard, k), guests_times(guests, k), filling), [])
        self.assertIs(is_fairest(yard, guests, k, filling), True)
        return k

    def test_four_pairs_without_a_common_divisor(self):
        guests = []
        for turn, prime in enumerate(GREAT_PRIMES):
            half = prime // 2
            guests.extend([(0, turn, turn, half, TOP), (0, turn, turn, prime - half, TOP)])
        yard = (4, ((None, (1, 10 ** 28, 10 ** 29 + 1, 10 ** 29 + 5 * 10 ** 28)),))
        k = self.assert_figures(yard, guests)
        self.assertEqual([some for _, some in fair_levels(yard, guests)], [[0, 1], [2, 3], [4, 5], [6, 7]])
        self.assertGreater(k, 10 ** 115)

    def test_eight_that_are_apart(self):
        wants = [TOP - number for number in (0, 1, 2, 4, 6, 10, 12, 16)]
        guests = [(0, turn, turn, want, TOP) for turn, want in enumerate(wants)]
        yard = (8, ((None, tuple(10 ** 29 * (turn + 1) + 1 for turn in range(8))),))
        self.assert_figures(yard, guests)
        self.assertEqual(len(fair_levels(yard, guests)), 8)

    def test_two_fours_and_one_eight(self):
        for count in (2, 1):
            guests = []
            for turn in range(count):
                wants = [TOP - 3 * number - turn for number in range(8 // count)]
                guests.extend([(0, turn, turn, want, TOP) for want in wants])
            self.assert_figures((count, ((None, tuple(7 ** 30 + turn for turn in range(count))),)), guests)

    def test_drawn_ones(self):
        for _, yard, guests in made_cases(56, 60, TOP):
            self.assert_figures(yard, guests)
        source = random.Random(57)
        for _ in range(40):
            yard = made_yard(source, TOP)
            guests = [(source.randrange(len(yard[1])), *sorted(source.choices(range(yard[0]), k=2)),
                       source.randint(10 ** 29, TOP), source.randint(10 ** 28, TOP)) for _ in range(8)]
            self.assert_figures(yard, guests)


class IsFairestTest(unittest.TestCase):
    YARD = (2, ((None, (4, 4)), (0, (3, 3))))
    GUESTS = [(0, 0, 1, 6, 4), (1, 0, 1, 6, 4)]

    def assert_is(self, k, filling, expected):
        self.assertIs(is_fairest(self.YARD, self.GUESTS, k, filling), expected, (k, filling))

    def test_whichever_turns_it_takes(self):
        self.assertEqual(fair_levels(self.YARD, self.GUESTS), [((2, 3), [0, 1])])
        for filling in ([[2, 2], [2, 2]], [[1, 3], [3, 1]], [[3, 1], [1, 3]]):
            self.assert_is(1, filling, True)
        self.assert_is(2, [[4, 4], [4, 4]], True)
        self.assert_is(2, [[3, 5], [5, 3]], True)
        self.assert_is(10 ** 250, [[2 * 10 ** 250] * 2] * 2, True)

    def test_other_shares(self):
        for filling in ([[0, 0], [0, 0]], [[2, 2], [2, 1]], [[3, 2], [1, 2]], [[2, 1], [2, 3]], [[4, 2], [0, 2]]):
            self.assertEqual(plain_faults(self.YARD, self.GUESTS, filling), [])
            self.assert_is(1, filling, False)

    def test_another_k(self):
        self.assert_is(2, [[2, 2], [2, 2]], False)
        self.assert_is(3, [[2, 2], [2, 2]], False)
        self.assert_is(1, [[4, 4], [4, 4]], False)
        self.assert_is(10 ** 250, [[2, 2], [2, 2]], False)
        self.assert_is(10 ** 250, [[2 * 10 ** 250, 2 * 10 ** 250], [2 * 10 ** 250, 2 * 10 ** 250 - 1]], False)

    def test_no_filling_in_parts(self):
        # Each has the totals that the shares ask for, and a fault.
        self.assert_is(1, [[-1, 5], [2, 2]], False)
        self.assert_is(1, [[0, 4], [4, 0]], False)
        self.assert_is(1, [[3, 1], [3, 1]], False)
        self.assert_is(2, [[0, 8], [7, 1]], False)
        yard, guests = (2, ((None, (4, 4)),)), [(0, 0, 0, 2, 2)]
        self.assertIs(is_fairest(yard, guests, 1, [[2, 0]]), True)
        self.assertIs(is_fairest(yard, guests, 1, [[1, 1]]), False)
        self.assertIs(is_fairest(yard, guests, 1, [[3, -1]]), False)
        self.assertIs(is_fairest(yard, guests, 1, [[3, 0]]), False)
        self.assertIs(is_fairest(yard, [(0, 0, 1, 4, 2)], 1, [[3, 1]]), False)

    def test_great_numbers_of_any_sign(self):
        great = 10 ** 300 - 1
        self.assert_is(1, [[great, -great + 4], [2, 2]], False)
        self.assert_is(1, [[great, great], [great, great]], False)
        self.assert_is(1, [[-great, -great], [-great, -great]], False)

    def test_whole_fillings_of_small_ones(self):
        for yard, guests in small_cases(58, 60):
            k, filling = fairest(yard, guests)
            for factor in (2, 7):
                more = [[take * factor for take in takes] for takes in filling]
                self.assertIs(is_fairest(yard, guests, k * factor, more), True)
                if any(map(any, filling)):
                    self.assertIs(is_fairest(yard, guests, k, more), False)
                    self.assertIs(is_fairest(yard, guests, k * factor, filling), False)

    def test_changed_fillings(self):
        for source, yard, guests in made_cases(59, 60):
            k, filling = fairest(yard, guests)
            if not guests:
                continue
            for _ in range(6):
                changed = copy.deepcopy(filling)
                takes = source.choice(changed)
                takes[source.randrange(yard[0])] += source.choice([-1, 1, k, -k])
                other = source.choice(changed)
                other[source.randrange(yard[0])] += source.choice([0, -1, 1])
                totals = [sum(takes) for takes in changed]
                is_one = (plain_faults(yard_times(yard, k), guests_times(guests, k), changed) == []
                          and shares_by(guests, k, totals) == shares_told(yard, guests))
                self.assertIs(is_fairest(yard, guests, k, changed), is_one)


class OwnedTest(unittest.TestCase):
    def test_nothing_handed_in_is_changed(self):
        guests = list(DEEP_GUESTS)
        k, filling = fairest(DEEP, guests)
        kept = copy.deepcopy(filling)
        fair_levels(DEEP, guests)
        is_fairest(DEEP, guests, k, filling)
        self.assertEqual(guests, DEEP_GUESTS)
        self.assertEqual(filling, kept)

    def test_told_lists_are_the_askers_own(self):
        levels, (k, filling) = fair_levels(DEEP, DEEP_GUESTS), fairest(DEEP, DEEP_GUESTS)
        kept = copy.deepcopy(levels)
        self.assertEqual(len({id(takes) for takes in filling}), len(DEEP_GUESTS))
        for _, some in levels:
            some.append(99)
        levels.clear()
        for takes in filling:
            takes.clear()
        filling.clear()
        self.assertEqual(fair_levels(DEEP, DEEP_GUESTS), kept)
        self.assertIs(is_fairest(DEEP, DEEP_GUESTS, *fairest(DEEP, DEEP_GUESTS)), True)
        fair_levels(DEEP, []).append(1)
        fairest(DEEP, [])[1].append(1)
        self.assertEqual((fair_levels(DEEP, []), fairest(DEEP, [])[1]), ([], []))


if __name__ == "__main__":
    unittest.main()
