import itertools
import random
import unittest

from chargeyard.errors import NoGuest, NoNumber, NoRoom, NoTime
from chargeyard.hands import Hand
from days import Day, drawn_day
from plain import all_totals
from samples import DEEP, EIGHT_TURNS, ONE_LINE, TOP, is_whole, made_guests, made_yard

TWO_TURNS = (2, ((None, (4, 4)), (0, (3, 3))))
NO_GUESTS = (
    None, True, 0, 1.5, "", "guest", b"guest", [], (), {}, [0, 0, 0, 1, 1], (0, 0, 0, 1), (0, 0, 0, 1, 1, 1),
    (2, 0, 0, 1, 1), (-1, 0, 0, 1, 1), (0, 2, 2, 1, 1), (0, 0, 2, 1, 1), (0, 1, 0, 1, 1), (0, -1, 0, 1, 1),
    (0, 0, 0, 0, 1), (0, 0, 0, 1, 0), (0, 0, 0, TOP + 1, 1), (0, 0, 0, 1, TOP + 1), (0, 0, 0, -1, 1),
    (0, 0, 0, True, 1), (False, 0, 0, 1, 1), (0, 0, 0, 1.0, 1), (0, 0, 0, "1", 1), (None, 0, 0, 1, 1), object(), Hand,
)


class HandTest(unittest.TestCase):
    def day(self, yard):
        return Day(self, Hand(yard), yard)

    def test_a_new_hand(self):
        hand = Hand(DEEP)
        self.assertEqual(hand.now(), 0)
        self.assertTrue(is_whole(hand.now()))
        self.assertEqual((hand.open_ones(), hand.gifts(), hand.yard_now()), ([], [], DEEP))

    def test_numbers_from_0_on(self):
        hand = Hand(TWO_TURNS)
        self.assertEqual([hand.come((1, 0, 1, 1, 1)) for _ in range(6)], [0, 1, 2, 3, 4, 5])
        with self.assertRaises(NoRoom):
            hand.come((1, 0, 1, 1, 1))
        self.assertEqual(hand.come((0, 0, 1, 1, 1)), 6)
        self.assertEqual(hand.open_ones(), [0, 1, 2, 3, 4, 5, 6])

    def test_a_number_is_not_given_twice(self):
        hand = Hand(ONE_LINE)
        self.assertEqual(hand.come((0, 0, 0, 5, 5)), 0)
        self.assertEqual(hand.leave(0), 0)
        self.assertEqual(hand.come((0, 0, 0, 5, 5)), 1)
        self.assertEqual(hand.open_ones(), [1])

    def test_no_guest(self):
        day = self.day(TWO_TURNS)
        day.come((1, 0, 1, 2, 2))
        for turn in range(3):
            for thing in NO_GUESTS:
                day.refuses(NoGuest, "come", thing)
            day.turn()

    def test_no_guest_goes_ahead_of_no_time_and_that_of_no_room(self):
        day = self.day(TWO_TURNS)
        day.come((0, 0, 1, 5, 4))
        day.turn()
        day.refuses(NoGuest, "come", (0, 0, 2, 9, 9))
        day.refuses(NoGuest, "come", (0, 0, 0, 9, 0))
        day.refuses(NoTime, "come", (0, 0, 1, 9, 9))
        day.refuses(NoTime, "come", (0, 0, 0, 1, 1))
        day.refuses(NoRoom, "come", (0, 1, 1, 9, 9))
        day.turn()
        day.refuses(NoTime, "come", (0, 1, 1, 1, 1))
        day.refuses(NoTime, "come", (0, 0, 1, 1, 1))
        day.refuses(NoGuest, "come", (0, 2, 2, 1, 1))

    def test_the_present_turn_counts(self):
        day = self.day(TWO_TURNS)
        day.turn()
        day.come((0, 1, 1, 4, 4))
        self.assertEqual(day.hand.open_ones(), [0])
        day.turn()
        self.assertEqual(day.hand.gifts(), [{}, {0: 4}])

    def test_just_what_can_be_promised(self):
        hand = Hand(TWO_TURNS)
        self.assertEqual(hand.come((1, 0, 1, 6, 3)), 0)
        for guest in ((1, 0, 1, 1, 1), (1, 1, 1, 1, 1), (0, 0, 1, 3, 3), (0, 0, 0, 2, 2)):
            with self.assertRaises(NoRoom) as caught:
                hand.come(guest)
            self.assertEqual(caught.exception.some, [0, 1])
        self.assertEqual(hand.come((0, 0, 1, 2, 1)), 1)
        for guest in ((0, 0, 1, 1, 1), (1, 0, 0, 1, 1)):
            with self.assertRaises(NoRoom) as caught:
                hand.come(guest)
            self.assertIn(2, caught.exception.some)
        self.assertEqual([hand.turn(), hand.turn()], [{0: 3, 1: 1}, {0: 3, 1: 1}])

    def test_the_set_has_the_new_one_alone_where_it_wants_too_much_by_itself(self):
        hand = Hand(TWO_TURNS)
        hand.come((0, 0, 1, 1, 1))
        with self.assertRaises(NoRoom) as caught:
            hand.come((0, 0, 1, 3, 1))
        self.assertEqual(caught.exception.some, [1])

    def test_one_that_can_wait_makes_way(self):
        day = self.day((3, ((None, (2, 2, 2)),)))
        for guest in ((0, 0, 2, 2, 2), (0, 0, 0, 2, 2), (0, 1, 1, 2, 2)):
            day.come(guest)
        self.assertEqual(len(day.guests), 3)
        for _ in range(3):
            day.turn()
            day.check()
        self.assertEqual(day.hand.gifts(), [{1: 2}, {2: 2}, {0: 2}])

    def test_one_turn_and_bounds_of_0(self):
        day = self.day((1, ((None, (0,)),)))
        day.come((0, 0, 0, 1, 1))
        self.assertEqual(day.refused[NoRoom], 1)
        day.turn()
        self.assertEqual(day.hand.gifts(), [{}])
        day.turn()
        self.assertEqual(day.refused[NoTime], 1)
        day.check()

    def test_a_bound_is_set(self):
        day = self.day(TWO_TURNS)
        day.come((1, 0, 1, 4, 3))
        day.set_bound(1, 0, 1)
        self.assertEqual(day.hand.yard_now(), (2, ((None, (4, 4)), (0, (1, 3)))))
        self.assertEqual(day.refused[NoRoom], 0)
        for bound in (0, 1, 2):
            day.set_bound(1, 1, bound)
        self.assertEqual(day.refused[NoRoom], 3)
        day.set_bound(0, 1, 2)
        day.set_bound(0, 0, 0)
        self.assertEqual(day.refused[NoRoom], 5)
        day.set_bound(0, 1, TOP)
        day.set_bound(1, 0, 0)
        day.turn()
        day.turn()
        day.check()
        day.set_bound(0, 1, 3)
        self.assertEqual(day.refused[NoTime], 1)

    def test_the_set_that_shows_why_a_bound_is_refused(self):
        day = self.day(TWO_TURNS)
        for guest in ((0, 0, 0, 1, 1), (1, 1, 1, 3, 3), (0, 1, 1, 1, 1)):
            day.come(guest)
        for line, turn, bound in ((1, 1, 2), (0, 1, 3), (0, 0, 0)):
            day.set_bound(line, turn, bound)
        self.assertEqual((len(day.guests), day.refused[NoRoom]), (3, 3))
        for line, turn, bound in ((1, 1, 3), (0, 1, 4), (0, 0, 1), (1, 0, 0)):
            day.set_bound(line, turn, bound)
        self.assertEqual(day.refused[NoRoom], 3)
        day.check()

    def test_a_past_turn_is_no_time_whatever_the_bound(self):
        day = self.day(TWO_TURNS)
        day.come((0, 0, 1, 8, 4))
        day.turn()
        for bound in (0, 4, TOP):
            day.refuses(NoTime, "set_bound", 0, 0, bound)
            day.refuses(NoTime, "set_bound", 1, 0, bound)
        day.refuses(NoRoom, "set_bound", 0, 1, 3)
        day.set_bound(1, 1, 0)
        day.check()

    def test_who_leaves_frees(self):
        day = self.day(TWO_TURNS)
        day.come((0, 0, 1, 8, 4))
        day.turn()
        day.come((0, 1, 1, 1, 1))
        self.assertEqual(day.refused[NoRoom], 1)
        day.leave(0)
        self.assertEqual((day.hand.got(0), day.hand.rest(0), day.hand.open_ones()), (4, 0, []))
        day.come((0, 1, 1, 4, 4))
        self.assertEqual(len(day.guests), 2)
        day.turn()
        self.assertEqual(day.hand.gifts(), [{0: 4}, {1: 4}])
        day.check()

    def test_who_has_got_all_may_leave_too(self):
        hand = Hand(TWO_TURNS)
        hand.come((0, 0, 0, 4, 4))
        hand.turn()
        hand.turn()
        self.assertEqual((hand.rest(0), hand.open_ones()), (0, []))
        self.assertEqual(hand.leave(0), 4)
        with self.assertRaises(NoNumber) as caught:
            hand.leave(0)
        self.assertEqual(caught.exception.number, 0)
        self.assertEqual((hand.got(0), hand.rest(0)), (4, 0))

    def test_numbers_that_none_has(self):
        day = self.day(TWO_TURNS)
        for count in range(3):
            for number in (-3, -2, -1, count, count + 1, 10 ** 30, -10 ** 30, 10 ** 5000):
                for name in ("leave", "got", "rest"):
                    day.refuses_number(name, number)
            day.come((0, 0, 1, 1, 1))

    def test_behind_the_last_turn(self):
        day = self.day(EIGHT_TURNS)
        day.come((1, 0, 7, 27, 9))
        for turn in range(8):
            self.assertEqual(day.hand.now(), turn)
            day.turn()
        for _ in range(2):
            day.refuses(NoTime, "turn")
            day.refuses(NoTime, "come", (0, 7, 7, 1, 1))
            day.refuses(NoTime, "set_bound", 0, 7, 1)
        self.assertEqual((day.hand.now(), day.hand.got(0), day.hand.rest(0)), (8, 27, 0))
        self.assertEqual(len(day.hand.gifts()), 8)
        day.ask(0)
        day.leave(0)
        day.check()

    def test_the_greatest_numbers(self):
        day = self.day((2, ((None, (TOP, TOP)), (0, (TOP, 1)))))
        day.come((1, 0, 1, TOP, TOP))
        day.come((0, 1, 1, TOP, TOP))
        day.come((0, 0, 1, 1, 1))
        self.assertEqual((len(day.guests), day.refused[NoRoom]), (2, 1))
        day.set_bound(0, 0, TOP - 1)
        self.assertEqual(day.refused[NoRoom], 2)
        day.turn()
        day.turn()
        self.assertEqual(day.hand.gifts(), [{0: TOP}, {1: TOP}])
        day.check()


class DaysTest(unittest.TestCase):
    def test_drawn_days(self):
        refused = {}
        let_in = gone = 0
        for seed, greatest in itertools.product(range(60), (4, 12, TOP)):
            day = drawn_day(self, random.Random(f"day {seed} {greatest}"), Hand, greatest)
            for kind, count in day.refused.items():
                refused[kind] = refused.get(kind, 0) + count
            let_in, gone = let_in + len(day.guests), gone + len(day.gone)
        self.assertGreater(min(refused[NoTime], refused[NoRoom], refused[NoNumber], let_in, gone), 100)

    def test_small_ones_by_trying_all_fillings(self):
        told = {True: 0, False: 0}
        for seed in range(120):
            source = random.Random(f"small {seed}")
            yard = made_yard(source, 4, 3, 3)
            hand, guests = Hand(yard), []
            for guest in made_guests(source, yard, 3, 3):
                fits = tuple(g[3] for g in guests + [guest]) in all_totals(yard, guests + [guest])
                try:
                    self.assertEqual(hand.come(guest), len(guests))
                    guests.append(guest)
                    self.assertTrue(fits)
                except NoRoom:
                    self.assertFalse(fits)
                told[fits] += 1
        self.assertGreater(min(told.values()), 30)


class OwnedTest(unittest.TestCase):
    def hand(self):
        hand = Hand(TWO_TURNS)
        hand.come((1, 0, 1, 4, 2))
        hand.come((0, 0, 1, 2, 1))
        return hand

    def test_told_lists_and_dicts_are_the_askers_own(self):
        hand = self.hand()
        hand.open_ones().clear()
        self.assertEqual(hand.open_ones(), [0, 1])
        gifts = hand.turn()
        self.assertEqual(gifts, {0: 2, 1: 1})
        told = hand.gifts()
        gifts[0] = 99
        gifts[7] = 7
        self.assertEqual(told, [{0: 2, 1: 1}])
        self.assertEqual(hand.gifts(), [{0: 2, 1: 1}])
        told[0].clear()
        told.append({})
        self.assertEqual(hand.gifts(), [{0: 2, 1: 1}])
        self.assertEqual((hand.got(0), hand.got(1), hand.open_ones()), (2, 1, [0, 1]))

    def test_what_is_told_stays_as_it_was(self):
        hand = self.hand()
        gifts = hand.turn()
        told, opened, yard = hand.gifts(), hand.open_ones(), hand.yard_now()
        hand.set_bound(1, 1, 2)
        hand.turn()
        hand.leave(0)
        self.assertEqual((gifts, told, opened, yard), ({0: 2, 1: 1}, [{0: 2, 1: 1}], [0, 1], TWO_TURNS))

    def test_a_told_set_is_the_askers_own(self):
        hand = self.hand()
        for deed in (lambda: hand.come((1, 0, 1, 9, 9)), lambda: hand.set_bound(0, 1, 0)):
            with self.assertRaises(NoRoom) as caught:
                deed()
            caught.exception.some.clear()
            with self.assertRaises(NoRoom) as caught:
                deed()
            self.assertNotEqual(caught.exception.some, [])

    def test_two_hands_of_a_yard_do_not_touch_each_other(self):
        one, other = self.hand(), Hand(TWO_TURNS)
        one.turn()
        one.set_bound(0, 1, 5)
        one.leave(1)
        self.assertEqual((other.now(), other.open_ones(), other.gifts(), other.yard_now()), (0, [], [], TWO_TURNS))
        self.assertEqual(other.come((0, 0, 0, 4, 4)), 0)


if __name__ == "__main__":
    unittest.main()
