import copy
import itertools
import random
import unittest
from fractions import Fraction

from chargeyard.fractions import fraction, is_fairer
from samples import TOP, is_whole


def drawn(source, count, greatest):
    bottoms = [source.randint(1, greatest) for _ in range(count)]
    return [fraction(source.randint(0, bottom), bottom) for bottom in bottoms]


def plainly_fairer(one, other):
    """By the point's own words: the first place where both, sorted rising by size, differ."""
    ones, others = [sorted(Fraction(top, bottom) for top, bottom in parts) for parts in (one, other)]
    for mine, yours in zip(ones, others):
        if mine != yours:
            return mine > yours
    return False


class FractionTest(unittest.TestCase):
    def test_fractions(self):
        self.assertEqual(fraction(1, 2), (1, 2))
        self.assertEqual(fraction(2, 4), (1, 2))
        self.assertEqual(fraction(6, 4), (3, 2))
        self.assertEqual(fraction(7, 7), (1, 1))
        self.assertEqual(fraction(7, 1), (7, 1))
        self.assertEqual(fraction(12, 4), (3, 1))
        self.assertEqual(fraction(35, 64), (35, 64))

    def test_0(self):
        for bottom in (1, 2, 9, TOP, 10 ** 300):
            self.assertEqual(fraction(0, bottom), (0, 1))

    def test_below_0(self):
        self.assertEqual(fraction(-1, 2), (-1, 2))
        self.assertEqual(fraction(-6, 4), (-3, 2))
        self.assertEqual(fraction(-8, 4), (-2, 1))

    def test_all_small_ones(self):
        for top, bottom in itertools.product(range(-30, 31), range(1, 31)):
            told = fraction(top, bottom)
            self.assertIsInstance(told, tuple)
            self.assertTrue(all(is_whole(part) for part in told))
            self.assertGreaterEqual(told[1], 1)
            self.assertEqual(told[0] * bottom, top * told[1])
            for divisor in range(2, 31):
                self.assertFalse(told[0] % divisor == 0 and told[1] % divisor == 0)

    def test_great_ones(self):
        self.assertEqual(fraction(TOP, TOP), (1, 1))
        self.assertEqual(fraction(TOP - 1, TOP), (TOP - 1, TOP))
        self.assertEqual(fraction(10 ** 299, 10 ** 300), (1, 10))
        self.assertEqual(fraction(3 * 10 ** 299, 7 * 10 ** 290), (3 * 10 ** 9, 7))
        source = random.Random(40)
        for figures in (30, 300):
            for _ in range(50):
                top, bottom, k = [source.randint(1, 10 ** figures - 1) for _ in range(3)]
                plain = Fraction(top, bottom)
                self.assertEqual(fraction(top * k, bottom * k), (plain.numerator, plain.denominator))


class FairerTest(unittest.TestCase):
    def assert_fairer(self, one, other):
        self.assertIs(is_fairer(one, other), True)
        self.assertIs(is_fairer(other, one), False)

    def assert_neither(self, one, other):
        self.assertIs(is_fairer(one, other), False)
        self.assertIs(is_fairer(other, one), False)

    def test_no_fraction(self):
        self.assert_neither([], [])

    def test_one_fraction(self):
        self.assert_fairer([(1, 2)], [(1, 3)])
        self.assert_fairer([(1, 1)], [(0, 1)])
        self.assert_fairer([(2, 3)], [(3, 5)])
        self.assert_fairer([(3, 2)], [(1, 1)])
        self.assert_neither([(2, 3)], [(2, 3)])

    def test_below_0(self):
        self.assert_fairer([(-1, 3)], [(-1, 2)])
        self.assert_fairer([(0, 1), (0, 1)], [(5, 1), (-1, 9)])

    def test_the_first_place_counts(self):
        self.assert_fairer([(1, 3), (1, 3)], [(1, 4), (1, 1)])
        self.assert_fairer([(1, 3), (1, 2)], [(1, 3), (2, 5)])
        self.assert_fairer([(0, 1), (1, 2), (1, 2)], [(0, 1), (1, 3), (1, 1)])
        self.assert_fairer([(0, 1), (1, 2), (1, 1)], [(0, 1), (1, 2), (9, 10)])

    def test_the_order_in_the_lists_does_not_count(self):
        self.assert_neither([(1, 2), (1, 3), (1, 1)], [(1, 1), (1, 2), (1, 3)])
        self.assert_fairer([(1, 1), (1, 3)], [(1, 4), (1, 1)])
        self.assert_fairer([(1, 3), (1, 1)], [(1, 1), (1, 4)])

    def test_by_size_not_by_tops_or_bottoms(self):
        self.assert_fairer([(1, 2), (1, 2)], [(2, 5), (7, 8)])
        self.assert_fairer([(10, 11)], [(9, 10)])
        self.assert_fairer([(1, 9)], [(1, 10)])
        self.assert_fairer([(3, 7), (1, 2)], [(5, 12), (2, 3)])

    def test_all_pairs_of_small_lists(self):
        sizes = [(0, 1), (1, 3), (1, 2), (2, 3), (1, 1)]
        for one in itertools.product(sizes, repeat=3):
            for other in itertools.product(sizes, repeat=3):
                self.assertIs(is_fairer(list(one), list(other)), plainly_fairer(one, other))

    def test_drawn_lists(self):
        source = random.Random(41)
        for greatest in (3, 9, TOP, 10 ** 300):
            for _ in range(60):
                count = source.randint(0, 8)
                one = drawn(source, count, greatest)
                other = source.choice([drawn(source, count, greatest), source.sample(one, count)])
                if count and source.random() < 0.5:
                    other[0] = one[0]
                self.assertIs(is_fairer(one, other), plainly_fairer(one, other))
                self.assertIs(is_fairer(other, one), plainly_fairer(other, one))
                self.assertIs(is_fairer(one, one), False)

    def test_great_ones_that_are_near(self):
        self.assert_fairer([(TOP - 1, TOP)], [(TOP - 2, TOP - 1)])
        great = 10 ** 300
        self.assert_fairer([(1, 2), (great, great + 1)], [(great - 1, great), (1, 2)])
        self.assert_fairer([(1, great - 1)] * 8, [(1, great - 1)] * 7 + [(1, great)])


class OwnedTest(unittest.TestCase):
    def test_nothing_handed_in_is_changed(self):
        one, other = [(1, 1), (1, 3)], [(1, 2), (0, 1)]
        kept = copy.deepcopy((one, other))
        is_fairer(one, other)
        is_fairer(one, one)
        self.assertEqual((one, other), kept)


if __name__ == "__main__":
    unittest.main()
