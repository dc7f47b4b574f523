import copy
import itertools
import unittest

from chargeyard.fillings import fault_of, lacks_of, loads_of, totals_of
from chargeyard.yards import guests_times, yard_times
from plain import plain_faults
from samples import DEEP, DEEP_GUESTS, EIGHT_TURNS, ONE_LINE, TOP, made_cases, made_filling

DEEP_FILLING = [[3, 2, 1], [2, 4, 0], [0, 0, 2], [1, 1, 1], [0, 0, 2]]


def changed(filling, number, turn, take):
    told = copy.deepcopy(filling)
    told[number][turn] = take
    return told


class SumsTest(unittest.TestCase):
    def test_totals(self):
        self.assertEqual(totals_of([]), [])
        self.assertEqual(totals_of([[4]]), [4])
        self.assertEqual(totals_of(DEEP_FILLING), [6, 6, 2, 3, 2])
        self.assertEqual(totals_of([[5, -7, 1], [0, 0, 0]]), [-1, 0])

    def test_lacks(self):
        self.assertEqual(lacks_of([], []), [])
        self.assertEqual(lacks_of(DEEP_GUESTS, DEEP_FILLING), [0, 1, 2, 2, 1])
        self.assertEqual(lacks_of([(0, 0, 0, 3, 9)], [[5]]), [-2])
        self.assertEqual(lacks_of([(0, 0, 0, 3, 9)], [[-5]]), [8])

    def test_loads(self):
        loads = [[6, 7, 6], [3, 5, 3], [0, 0, 2], [1, 1, 3], [0, 0, 2]]
        self.assertEqual(loads_of(DEEP, DEEP_GUESTS, DEEP_FILLING), loads)

    def test_loads_without_guests(self):
        self.assertEqual(loads_of(ONE_LINE, [], []), [[0]])
        self.assertEqual(loads_of(DEEP, [], []), [[0, 0, 0]] * 5)

    def test_loads_of_any_sign(self):
        guests = [(0, 0, 0, 1, 1), (1, 3, 4, 1, 1)]
        filling = [[-3] * 8, [1, 2, 3, 4, 5, 6, 7, 8]]
        self.assertEqual(loads_of(EIGHT_TURNS, guests, filling), [[-2, -1, 0, 1, 2, 3, 4, 5], filling[1]])

    def test_totals_come_to_the_loads_of_the_first_line(self):
        for source, yard, guests in made_cases(4, 200):
            filling = [[source.randint(-9, 9) for _ in range(yard[0])] for _ in guests]
            self.assertEqual(sum(totals_of(filling)), sum(loads_of(yard, guests, filling)[0]))


class FaultTest(unittest.TestCase):
    def assert_fault(self, filling, fault):
        self.assertEqual(fault_of(DEEP, DEEP_GUESTS, filling), fault)

    def test_none(self):
        self.assert_fault(DEEP_FILLING, None)
        self.assert_fault([[0, 0, 0]] * 5, None)
        self.assertIsNone(fault_of(DEEP, [], []))
        self.assertIsNone(fault_of(ONE_LINE, [(0, 0, 0, 5, 5)], [[5]]))
        self.assertIsNone(fault_of((1, ((None, (0,)),)), [(0, 0, 0, 1, 1)], [[0]]))

    def test_below(self):
        self.assert_fault(changed(DEEP_FILLING, 3, 1, -1), ("below", 3, 1))
        # Also where the guest isn't there.
        self.assert_fault(changed(DEEP_FILLING, 4, 0, -1), ("below", 4, 0))

    def test_away(self):
        self.assert_fault(changed(DEEP_FILLING, 1, 2, 1), ("away", 1, 2))
        self.assert_fault(changed(DEEP_FILLING, 4, 1, 1), ("away", 4, 1))
        # More than its most, but it isn't there.
        self.assert_fault(changed(DEEP_FILLING, 2, 0, 99), ("away", 2, 0))

    def test_most(self):
        self.assert_fault([[0, 0, 4], [0] * 3, [0] * 3, [0] * 3, [0] * 3], ("most", 0, 2))
        self.assert_fault([[0, 0, 3], [0] * 3, [0] * 3, [0] * 3, [0] * 3], None)

    def test_want(self):
        self.assert_fault([[3, 3, 0], [0] * 3, [0] * 3, [0] * 3, [0] * 3], None)
        self.assert_fault([[3, 3, 1], [0] * 3, [0] * 3, [0] * 3, [0] * 3], ("want", 0))

    def test_line(self):
        self.assert_fault([[0] * 3, [0] * 3, [0, 1, 0], [0] * 3, [0] * 3], ("line", 2, 1))
        self.assert_fault([[0] * 3, [0] * 3, [0] * 3, [0] * 3, [0, 0, 3]], ("line", 4, 2))
        self.assert_fault([[0] * 3, [4, 0, 0], [0] * 3, [2, 0, 0], [0] * 3], ("line", 1, 0))
        self.assertEqual(fault_of(ONE_LINE, [(0, 0, 0, 9, 9), (0, 0, 0, 9, 9)], [[3], [3]]), ("line", 0, 0))

    def test_the_first_of_several(self):
        below, away, most = [-1, 0, 0], [0, 0, 1], [0, 5, 0]
        nothing = [[0] * 3] * 4
        self.assert_fault([[4, -1, 0]] + nothing, ("most", 0, 0))
        self.assert_fault([[-1, 4, 0]] + nothing, ("below", 0, 0))
        self.assert_fault([[3, 3, 4]] + nothing, ("most", 0, 2))
        self.assert_fault([[0] * 3, away, below] + nothing[:2], ("away", 1, 2))
        self.assert_fault([[0] * 3, most, below] + nothing[:2], ("most", 1, 1))
        # The want of a guest goes ahead of all faults of a later guest, and every guest ahead of the lines.
        self.assert_fault([[3, 3, 3], below] + nothing[:3], ("want", 0))
        self.assert_fault([[0] * 3, [4, 0, 0], [0] * 3, [3, 0, 0], [1, 0, 0]], ("away", 4, 0))
        # Lines first, then turns.
        self.assert_fault([[0] * 3, [0] * 3, [0, 1, 0], [3, 0, 0], [0, 0, 3]], ("line", 2, 1))
        self.assertEqual(fault_of(ONE_LINE, [(0, 0, 0, 9, 9)] * 2, [[9], [10]]), ("most", 1, 0))
        two = (2, ((None, (9, 0)), (0, (0, 9))))
        self.assertEqual(fault_of(two, [(1, 0, 1, 9, 9)], [[1, 1]]), ("line", 0, 1))

    def test_all_small_fillings(self):
        yard = (2, ((None, (2, 1)), (0, (1, 1))))
        guests = [(1, 0, 1, 2, 1), (0, 1, 1, 1, 2)]
        for takes in itertools.product(range(-1, 4), repeat=4):
            filling = [list(takes[:2]), list(takes[2:])]
            faults = plain_faults(yard, guests, filling)
            self.assertEqual(fault_of(yard, guests, filling), faults[0] if faults else None)

    def test_made_up_ones(self):
        kinds = {}
        for source, yard, guests in made_cases(5, 400):
            filling = made_filling(source, yard, guests)
            self.assertIsNone(fault_of(yard, guests, filling))
            for takes in filling:
                for turn in range(yard[0]):
                    if source.random() < 0.1:
                        takes[turn] += source.randint(-2, 9)
            faults = plain_faults(yard, guests, filling)
            fault = fault_of(yard, guests, filling)
            self.assertEqual(fault, faults[0] if faults else None)
            kinds[fault and fault[0]] = True
        self.assertEqual(set(kinds), {None, "below", "away", "most", "want", "line"})

    def test_the_greatest_numbers(self):
        yard, guests = (1, ((None, (TOP,)),)), [(0, 0, 0, TOP, TOP)]
        for k in (1, 10 ** 270):
            wide, many = yard_times(yard, k), guests_times(guests, k)
            self.assertIsNone(fault_of(wide, many, [[TOP * k]]))
            self.assertEqual(fault_of(wide, many, [[TOP * k + 1]]), ("most", 0, 0))
            self.assertEqual(fault_of(wide, many * 2, [[TOP * k], [1]]), ("line", 0, 0))
            self.assertEqual(fault_of(wide, many, [[-TOP * k]]), ("below", 0, 0))
            self.assertEqual(lacks_of(many, [[TOP * k - 1]]), [1])
            self.assertEqual(loads_of(wide, many * 2, [[TOP * k], [1]]), [[TOP * k + 1]])


class OwnedTest(unittest.TestCase):
    def test_nothing_handed_in_is_changed(self):
        guests, filling = list(DEEP_GUESTS), copy.deepcopy(DEEP_FILLING)
        totals_of(filling)
        lacks_of(guests, filling)
        fault_of(DEEP, guests, filling)
        for loads in loads_of(DEEP, guests, filling):
            loads.clear()
        self.assertEqual(guests, DEEP_GUESTS)
        self.assertEqual(filling, DEEP_FILLING)

    def test_told_lists_are_the_askers_own(self):
        for tell in (
            lambda: totals_of(DEEP_FILLING),
            lambda: lacks_of(DEEP_GUESTS, DEEP_FILLING),
            lambda: loads_of(DEEP, DEEP_GUESTS, DEEP_FILLING),
            lambda: loads_of(DEEP, [], []),
        ):
            told = tell()
            kept = copy.deepcopy(told)
            for part in told:
                if isinstance(part, list):
                    part.append(50)
            told.clear()
            self.assertEqual(tell(), kept)

    def test_lists_within_are_different_ones(self):
        for loads in (loads_of(DEEP, DEEP_GUESTS, DEEP_FILLING), loads_of(DEEP, [], [])):
            self.assertEqual(len({id(part) for part in loads}), len(loads))

    def test_loads_of_a_lone_guest_are_not_its_own_list(self):
        filling = [[4]]
        told = loads_of(ONE_LINE, [(0, 0, 0, 4, 4)], filling)
        told[0][0] = 9
        self.assertEqual(filling, [[4]])


if __name__ == "__main__":
    unittest.main()
