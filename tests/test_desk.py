import itertools
import random
import unittest

from chargeyard.desk import Desk
from chargeyard.errors import NoGuest, NoNumber, NoRoom, NoRow, NoText, NoTime, NoYard, YardError
from chargeyard.texts import written
from days import Day, DeskHand, drawn_day
from samples import TOP, made_cases

TEXT = "yard 2\nline - 4 4\nline 0 3 3"
STATE_ROWS = ("now", "open")
NO_ROWS = (
    None, True, 0, 1.5, b"now", [], ["now"], ("come", 0, 0, 0, 1, 1), {}, object(), Desk,
    "", " ", "  ", "-", "x", "0", "Now", "NOW", "now ", " now", "now\n", "\nnow", "now now", "now 0", "nowx", "no",
    "turn 0", "turn ", "Turn", "turns", "turn\nturn", "turn turn", "turn -",
    "open 0", "open ", "open -", "opened", "open_ones",
    "leave", "leave ", "leave  0", "leave 0 ", "leave 0 1", "leave x", "leave -", "leave -1", "leave +0", "leave 00",
    "leave 1.0", "leave \u0660", "leave " + "1" * 31, "leave " + "1" * 5000, "leave\t0", "leave 0\n",
    "got", "got ", "got 0 0", "got -1", "got 01", "got x", "got " + "9" * 31, "got 0\r",
    "rest", "rest ", "rest 0 0", "rest -1", "rest 00", "rest x", "rest " + "0" * 31, "rest None",
    "come", "come 0", "come 0 0 0 1", "come 0 0 0 1 1 1", "come 0 0 0 1 1 ", "come  0 0 0 1 1", "come 0 0 0 1 -1",
    "come - 0 0 1 1", "come 0 0 0 01 1", "come 0 0 0 1 x", "come 0 0 0 1 1\n", "come 0 0 0 1 " + "1" * 31,
    "guest 0 0 0 1 1", "come 0,0,0,1,1", "come 0 0 0 1 1.0", "come 0 0 0 1 \u00b9",
    "bound", "bound 0", "bound 0 0", "bound 0 0 0 0", "bound 0 0 -1", "bound - 0 0", "bound 0 0 x", "bound 0 0 00",
    "bound 0 0 1 ", "bound 0 0  1", "bound 0 0 " + "1" * 31, "bound 0 0 1" + "0" * 5000, "set_bound 0 0 1",
    # Lines and turns that the yard hasn't.
    "bound 2 0 1", "bound 0 2 1", "bound 2 2 1", "bound 9 0 0", "bound 0 9 0", "bound " + "9" * 30 + " 0 0",
    "bound 0 " + "9" * 30 + " 0", "yard 1", "line - 5", "gifts", "yard_now", "say", "quit", "none", "None",
)


def state_of(desk, count):
    rows = list(STATE_ROWS)
    for number in range(count):
        rows.extend([f"got {number}", f"rest {number}"])
    return [desk.say(row) for row in rows]


class DeskTest(unittest.TestCase):
    def assert_refused(self, desk, count, row, kind):
        before = state_of(desk, count)
        with self.assertRaises(YardError) as caught:
            desk.say(row)
        self.assertIs(type(caught.exception), kind, row)
        self.assertEqual(state_of(desk, count), before)
        return caught.exception

    def assert_answers(self, desk, pairs):
        for row, told in pairs:
            self.assertEqual(desk.say(row), told, row)

    def test_each_row(self):
        self.assert_answers(Desk(TEXT), [
            ("now", "0"), ("open", "-"),
            ("come 1 0 1 6 3", "0"), ("come 0 0 1 2 1", "1"), ("open", "0 1"),
            ("got 0", "0"), ("rest 0", "6"), ("turn", "0:3 1:1"), ("now", "1"),
            ("got 0", "3"), ("rest 0", "3"), ("got 1", "1"), ("rest 1", "1"),
            ("bound 0 1 9", "ok"), ("come 0 1 1 5 5", "2"), ("open", "0 1 2"),
            ("leave 0", "3"), ("got 0", "3"), ("rest 0", "0"), ("open", "1 2"),
            ("turn", "1:1 2:5"), ("now", "2"), ("open", "-"), ("leave 2", "5"), ("rest 2", "0"), ("leave 1", "2"),
        ])

    def test_a_turn_without_gifts(self):
        self.assert_answers(Desk(TEXT), [("turn", "-"), ("come 0 1 1 1 1", "0"), ("turn", "0:1")])

    def test_the_greatest_numbers(self):
        nines = "9" * 30
        self.assert_answers(Desk(f"yard 1\nline - {nines}"), [
            (f"come 0 0 0 {nines} {nines}", "0"), ("rest 0", nines), (f"bound 0 0 {nines}", "ok"),
            ("turn", f"0:{nines}"), ("got 0", nines), ("leave 0", nines),
        ])

    def test_guests_of_the_text(self):
        desk = Desk(TEXT + "\nguest 1 0 1 6 3\nguest 0 0 1 2 1")
        self.assert_answers(desk, [("now", "0"), ("open", "0 1"), ("turn", "0:3 1:1"), ("turn", "0:3 1:1")])

    def test_guests_of_the_text_that_find_no_room(self):
        # The second, the fourth and the last one are refused; the others go on in their order.
        desk = Desk(TEXT + "\nguest 1 0 1 6 3\nguest 1 0 0 1 1\nguest 0 0 0 1 1\nguest 0 0 1 2 1\nguest 0 1 1 1 1"
                    + "\nguest 0 1 1 1 1")
        self.assert_answers(desk, [
            ("open", "0 1 2"), ("rest 0", "6"), ("rest 1", "1"), ("rest 2", "1"),
            ("turn", "0:3 1:1"), ("turn", "0:3 2:1"), ("open", "-"),
        ])
        self.assertEqual(self.assert_refused(desk, 3, "got 3", NoNumber).number, 3)
        shut = Desk("yard 1\nline - 0" + "\nguest 0 0 0 1 1" * 8)
        self.assert_answers(shut, [("open", "-"), ("turn", "-")])

    def test_texts_that_are_refused(self):
        for text, kind, row in (
            (None, NoText, 0), (7, NoText, 0), (TEXT.encode(), NoText, 0), (["yard 1", "line - 5"], NoText, 0),
            ("", NoText, 0), ("yard 1", NoText, 1), (TEXT + "\n", NoText, 3), (TEXT + "\nguest 0 0 1 1", NoText, 3),
            ("yard 3\nline - 4 4", NoYard, None), (TEXT + "\nline - 4 4", NoYard, None),
            (TEXT + "\nguest 2 0 1 1 1", NoGuest, None), (TEXT + "\nguest 0 0 1 1 1" * 9, NoGuest, None),
        ):
            with self.assertRaises(YardError) as caught:
                Desk(text)
            self.assertIs(type(caught.exception), kind, text)
            self.assertEqual(getattr(caught.exception, "row", None), row)

    def test_no_rows(self):
        desk = Desk(TEXT + "\nguest 1 0 1 4 3")
        for turn in range(3):
            for row in NO_ROWS:
                self.assert_refused(desk, 1, row, NoRow)
            desk.say("come 1 1 1 1 1" if turn == 0 else "open")
            if turn < 2:
                desk.say("turn")

    def test_no_row_goes_ahead_of_what_the_hand_refuses(self):
        desk = Desk(TEXT)
        desk.say("turn")
        self.assert_refused(desk, 0, "bound 2 0 1", NoRow)
        self.assert_refused(desk, 0, "bound 1 0 1", NoTime)
        desk.say("come 0 1 1 4 4")
        self.assert_refused(desk, 1, "bound 0 2 0", NoRow)
        self.assert_refused(desk, 1, "bound 0 1 0", NoRoom)

    def test_what_the_hand_refuses(self):
        desk = Desk(TEXT + "\nguest 1 0 1 6 3")
        for row in ("come 2 0 1 1 1", "come 0 0 2 1 1", "come 0 1 0 1 1", "come 0 0 0 0 1", "come 0 0 0 1 0",
                    "come " + "9" * 30 + " 0 0 1 1"):
            self.assert_refused(desk, 1, row, NoGuest)
        self.assertEqual(self.assert_refused(desk, 1, "come 1 0 1 1 1", NoRoom).some, [0, 1])
        self.assertEqual(self.assert_refused(desk, 1, "bound 1 0 2", NoRoom).some, [0])
        for word, number in itertools.product(("leave", "got", "rest"), (1, 2, TOP)):
            self.assertEqual(self.assert_refused(desk, 1, f"{word} {number}", NoNumber).number, number)
        desk.say("turn")
        self.assert_refused(desk, 1, "come 0 0 1 1 1", NoTime)
        self.assert_refused(desk, 1, "bound 0 0 9", NoTime)
        desk.say("leave 0")
        self.assertEqual(self.assert_refused(desk, 1, "leave 0", NoNumber).number, 0)
        desk.say("turn")
        self.assert_refused(desk, 1, "turn", NoTime)
        self.assert_refused(desk, 1, "come 0 1 1 1 1", NoTime)
        self.assertEqual(desk.say("now"), "2")

    def test_gifts_by_numbers_rising(self):
        desk = Desk("yard 1\nline - 99" + "\nline 0 9" * 4
                    + "".join(f"\nguest {line} 0 0 {line + 1} 9" for line in (4, 0, 3, 1, 2, 0, 4, 2)))
        self.assertEqual(desk.say("turn"), "0:5 1:1 2:4 3:2 4:3 5:1 6:3")
        desk = Desk("yard 1\nline - 99" + "\nguest 0 0 0 1 1" * 8)
        for number in range(8, 12):
            self.assertEqual(desk.say("come 0 0 0 1 1"), str(number))
        self.assertEqual(desk.say("open"), " ".join(str(number) for number in range(12)))
        self.assertEqual(desk.say("turn"), " ".join(f"{number}:1" for number in range(12)))

    def test_two_desks_of_a_text_do_not_touch_each_other(self):
        text = TEXT + "\nguest 1 0 1 4 2"
        one, other = Desk(text), Desk(text)
        one.say("turn")
        one.say("bound 0 1 9")
        one.say("come 0 1 1 7 7")
        one.say("leave 0")
        self.assert_answers(other, [("now", "0"), ("open", "0"), ("got 0", "0"), ("rest 0", "4"), ("turn", "0:2")])
        with self.assertRaises(NoRoom):
            other.say("come 0 1 1 7 7")
        self.assert_answers(one, [("now", "1"), ("open", "1"), ("turn", "1:7")])


class DaysTest(unittest.TestCase):
    def test_drawn_days(self):
        refused = {}
        for seed, greatest in itertools.product(range(30), (4, 12, TOP)):
            source = random.Random(f"desk {seed} {greatest}")
            day = drawn_day(self, source, lambda yard: DeskHand(Desk(written(yard, []))), greatest)
            for kind, count in day.refused.items():
                refused[kind] = refused.get(kind, 0) + count
        self.assertGreater(min(refused[NoTime], refused[NoRoom], refused[NoNumber]), 40)

    def test_guests_of_the_text_come_as_to_a_hand(self):
        let_in = refused = 0
        for _, yard, guests in made_cases(70, 60):
            desk = Desk(written(yard, guests))
            day = Day(self, DeskHand(desk), yard)
            for guest in guests:
                if day.shown(yard, day.guests + [guest], day.rests() + [guest[3]]):
                    refused += 1
                else:
                    day.guests.append(guest)
                    day.given.append(0)
                    let_in += 1
            day.check()
            while day.present < day.turns:
                day.turn()
                day.check()
        self.assertGreater(min(let_in, refused), 60)


if __name__ == "__main__":
    unittest.main()
