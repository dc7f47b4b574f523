import itertools
import random
import unittest

from chargeyard.errors import NoGuest, NoText, NoYard, YardError
from chargeyard.texts import read, written
from chargeyard.yards import is_guest, is_yard
from plain import plain_refusal, plain_row
from samples import DEEP, DEEP_GUESTS, EIGHT_TURNS, ONE_LINE, TOP, is_whole, made_cases

DEEP_TEXT = """yard 3
line - 9 8 7
line 0 5 6 4
line 0 4 0 3
line 1 3 3 3
line 3 2 1 2
guest 0 0 2 6 3
guest 1 0 1 7 4
guest 2 1 2 4 2
guest 3 0 2 5 3
guest 4 2 2 3 3"""
NO_TEXTS = (
    None, True, 0, 1, 1.5, b"yard 1\nline - 5", [], ["yard 1", "line - 5"], ("yard 1", "line - 5"), {}, {"yard 1": 1},
    ONE_LINE, (ONE_LINE, []), object(), read,
)
# What is put in the place of a number, or behind one, so that none is there.
NO_NUMBERS = (
    "", "-", "--", "+1", "-1", "1.0", "1e3", "1_0", "01", "00", "007", "0x1", "a", "\u0663", "\u00b2", "\uff11", "1\t",
    "\t1", "1\r", "\u00a01", "1\u2028", "1\x0b", "1\x00", "None", "True", "yard", "1" + "0" * 30, "9" * 31,
    "0" * 30 + "1", "1" * 4000, "1" * 5000, "0" * 5000, "x" * 5000, "\ud800",
)


def refusal_of(text):
    """The class's name and the row, as plain_refusal tells them; None where nothing is refused."""
    try:
        read(text)
    except YardError as error:
        return (type(error).__name__, getattr(error, "row", None))
    return None


class WrittenTest(unittest.TestCase):
    def test_the_least_yard(self):
        self.assertEqual(written(ONE_LINE, []), "yard 1\nline - 5")
        self.assertEqual(written((1, ((None, (0,)),)), []), "yard 1\nline - 0")
        self.assertEqual(written(ONE_LINE, [(0, 0, 0, 1, 2)]), "yard 1\nline - 5\nguest 0 0 0 1 2")

    def test_lines_and_guests(self):
        self.assertEqual(written(DEEP, DEEP_GUESTS), DEEP_TEXT)

    def test_the_greatest_numbers(self):
        nines = "9" * 30
        self.assertEqual(written((1, ((None, (TOP,)),)), [(0, 0, 0, TOP, TOP)]),
                         f"yard 1\nline - {nines}\nguest 0 0 0 {nines} {nines}")

    def test_nothing_handed_in_is_changed(self):
        guests = list(DEEP_GUESTS)
        written(DEEP, guests)
        self.assertEqual(guests, DEEP_GUESTS)


class ReadTest(unittest.TestCase):
    def assert_read(self, text, yard, guests):
        told = read(text)
        self.assertEqual(told, (yard, guests))
        self.assertIsInstance(told, tuple)
        self.assertTrue(is_yard(told[0]))
        self.assertIsInstance(told[1], list)
        self.assertTrue(all(is_guest(yard, guest) for guest in told[1]))

    def assert_refused(self, text, kind, row=None):
        with self.assertRaises(YardError) as caught:
            read(text)
        self.assertIs(type(caught.exception), kind, text)
        if kind is NoText:
            self.assertEqual(caught.exception.row, row, text)
            self.assertTrue(is_whole(caught.exception.row))
        name = (kind.__name__, row)
        self.assertEqual(plain_refusal(text), name)

    def test_read(self):
        self.assert_read("yard 1\nline - 5", ONE_LINE, [])
        self.assert_read("yard 1\nline - 0\nguest 0 0 0 1 1", (1, ((None, (0,)),)), [(0, 0, 0, 1, 1)])
        self.assert_read(DEEP_TEXT, DEEP, DEEP_GUESTS)

    def test_thirty_figures(self):
        nines = "9" * 30
        self.assert_read(f"yard 1\nline - {nines}\nguest 0 0 0 {nines} {nines}",
                         (1, ((None, (TOP,)),)), [(0, 0, 0, TOP, TOP)])

    def test_what_is_written_is_read_again(self):
        self.assert_read(written(EIGHT_TURNS, []), EIGHT_TURNS, [])
        for greatest in (1, 9, TOP):
            for _, yard, guests in made_cases(60, 40, greatest):
                self.assert_read(written(yard, guests), yard, guests)

    def test_no_text(self):
        for thing in NO_TEXTS:
            self.assert_refused(thing, NoText, 0)

    def test_rows_that_lack(self):
        for text, row in (
            ("", 0),
            ("yard 1", 1),
            ("yard 9", 1),
            ("\n", 0),
            ("yard 1\n", 1),
        ):
            self.assert_refused(text, NoText, row)

    def test_line_ends_where_none_belong(self):
        for text, row in (
            ("yard 1\nline - 5\n", 2),
            ("\nyard 1\nline - 5", 0),
            ("yard 1\n\nline - 5", 1),
            ("yard\n1\nline - 5", 0),
            ("yard 1\nline -\n5", 1),
            ("yard 1\r\nline - 5", 0),
            ("yard 1\rline - 5", 0),
            ("yard 1\u2028line - 5", 0),
        ):
            self.assert_refused(text, NoText, row)

    def test_blanks_where_none_belong(self):
        for row in (" yard 1", "yard 1 ", "yard  1", "yard\t1", "yard\u00a01", " ", "yard "):
            self.assert_refused(row + "\nline - 5", NoText, 0)
        for row in (" line - 5", "line - 5 ", "line  - 5", "line -  5", "line\t- 5", "line - ", "line -", "line"):
            self.assert_refused("yard 1\n" + row, NoText, 1)
        for row in (" guest 0 0 0 1 1", "guest 0 0 0 1 1 ", "guest  0 0 0 1 1", "guest 0 0 0  1 1", "guest 0 0 0 1 "):
            self.assert_refused("yard 1\nline - 5\n" + row, NoText, 2)

    def test_other_words(self):
        for row in ("Yard 1", "yards 1", "1", "yard", "yard one", "yard -", "yard 1 1", "yard 1 -", "yard1", "y 1"):
            self.assert_refused(row + "\nline - 5", NoText, 0)
        for row in ("Line - 5", "lines - 5", "line", "line -", "line 0", "line 5", "line - -", "line x 5", "line - 5 x"):
            self.assert_refused("yard 1\n" + row, NoText, 1)
        for row in ("Guest 0 0 0 1 1", "guest 0 0 0 1", "guest 0 0 0 1 1 1", "guest", "guest - 0 0 1 1", "0 0 0 1 1"):
            self.assert_refused("yard 1\nline - 5\n" + row, NoText, 2)

    def test_words_that_are_no_numbers(self):
        for word in NO_NUMBERS:
            self.assert_refused(f"yard {word}\nline - 5\nguest 0 0 0 1 1", NoText, 0)
            self.assert_refused(f"yard 1\nline - {word}\nguest 0 0 0 1 1", NoText, 1)
            if word != "-":
                self.assert_refused(f"yard 1\nline - 5\nline {word} 5\nguest 0 0 0 1 1", NoText, 2)
            for place in range(5):
                words = ["0", "0", "0", "1", "1"]
                words[place] = word
                self.assert_refused("yard 1\nline - 5\nguest 0 0 0 2 2\nguest " + " ".join(words), NoText, 3)

    def test_where_rows_may_stand(self):
        for text, row in (
            ("line - 5", 0),
            ("line - 5\nyard 1", 0),
            ("guest 0 0 0 1 1\nyard 1\nline - 5", 0),
            ("yard 1\nyard 1\nline - 5", 1),
            ("yard 1\nguest 0 0 0 1 1", 1),
            ("yard 1\nguest 0 0 0 1 1\nline - 5", 1),
            ("yard 1\nline - 5\nyard 1", 2),
            ("yard 1\nline - 5\nguest 0 0 0 1 1\nyard 1", 3),
            ("yard 1\nline - 5\nguest 0 0 0 1 1\nline 0 5", 3),
            ("yard 1\nline - 5\nguest 0 0 0 1 1\nguest 0 0 0 1 1\nline 0 5\nx", 4),
        ):
            self.assert_refused(text, NoText, row)

    def test_no_yard(self):
        for text in (
            "yard 0\nline - 5", "yard 2\nline - 5", "yard 1\nline - 5 5", "yard 9\nline -" + " 1" * 9,
            "yard 1\nline 0 5", "yard 1\nline 1 5", "yard 1\nline - 5\nline - 5", "yard 1\nline - 5\nline 1 5",
            "yard 1\nline - 5\nline 2 5", "yard 2\nline - 5 5\nline 0 5", "yard 2\nline - 5 5\nline 0 5 5 5",
            "yard 1\nline - 5" + "\nline 0 5" * 5, "yard " + "9" * 30 + "\nline - 5",
            "yard 1\nline - 5\nline " + "9" * 30 + " 5",
        ):
            self.assert_refused(text, NoYard)
            # Also ahead of what tells no guest.
            self.assert_refused(text + "\nguest 9 0 0 1 1", NoYard)
            self.assert_refused(text + "\nguest 0 0 0 1 1" * 9, NoYard)
        self.assert_read("yard 1\nline - 5" + "\nline 0 5" * 4, (1, ((None, (5,)),) + ((0, (5,)),) * 4), [])

    def test_no_guest(self):
        start = "yard 2\nline - 5 5\nline 0 5 5\n"
        for row in (
            "guest 2 0 0 1 1", "guest 0 2 2 1 1", "guest 0 0 2 1 1", "guest 0 1 0 1 1", "guest 0 0 0 0 1",
            "guest 0 0 0 1 0", "guest " + "9" * 30 + " 0 0 1 1",
        ):
            self.assert_refused(start + row, NoGuest)
            self.assert_refused(start + "guest 1 0 1 1 1\n" + row, NoGuest)
            self.assert_refused(start + row + "\nguest 1 0 1 1 1", NoGuest)
        eight = "\n".join(["guest 1 0 1 1 1"] * 8)
        self.assert_read(start + eight, (2, ((None, (5, 5)), (0, (5, 5)))), [(1, 0, 1, 1, 1)] * 8)
        self.assert_refused(start + eight + "\nguest 1 0 1 1 1", NoGuest)

    def test_no_text_goes_ahead_of_no_yard_and_that_of_no_guest(self):
        self.assert_refused("yard 0\nline - 5\nguest 9 9 9 9 0\nguest", NoText, 3)
        self.assert_refused("yard 0\nline - 5\nguest 9 9 9 9 0", NoYard)
        self.assert_refused("yard 1\nline - 5\nguest 9 9 9 9 0", NoGuest)
        self.assert_refused("yard 1\nline 7 5\nguest 9 9 9 9 0\nline - 5", NoText, 3)
        self.assert_refused("yard 1\nline - 5" + "\nguest 0 0 0 1 1" * 9 + "\nyard 1", NoText, 11)

    def test_the_first_row_counts(self):
        for text, row in (
            ("yard 1\nline - 5\nguest\nx\n\n", 2),
            ("x\ny\nz", 0),
        ):
            self.assert_refused(text, NoText, row)

    def changed_rows(self, rows):
        for place, _ in enumerate(rows):
            yield rows[:place] + rows[place + 1:]
            yield rows[:place] + rows[place:place + 1] + rows[place:]
            yield rows[:place] + rows[place + 1:] + rows[place:place + 1]
            yield rows[:place] + [""] + rows[place:]
        for one, other in itertools.combinations(range(len(rows)), 2):
            exchanged = list(rows)
            exchanged[one], exchanged[other] = rows[other], rows[one]
            yield exchanged

    def changed_words(self, source, rows):
        for place, row in enumerate(rows):
            words = row.split(" ")
            at = source.randrange(len(words))
            for other in ("0", "7", "-", "yard", "line", "guest", source.choice(NO_NUMBERS)):
                for new in (words[:at] + [other] + words[at:], words[:at] + [other] + words[at + 1:]):
                    yield rows[:place] + [" ".join(new)] + rows[place + 1:]
            yield rows[:place] + [" ".join(words[:at] + words[at + 1:])] + rows[place + 1:]
            yield rows[:place] + [" ".join(words[:at] + [words[at] + "0"] + words[at + 1:])] + rows[place + 1:]

    def test_changed_rows_and_words(self):
        refused = {}
        for source, yard, guests in made_cases(61, 25):
            rows = written(yard, guests).split("\n")
            for changed in itertools.chain(self.changed_rows(rows), self.changed_words(source, rows)):
                text = "\n".join(changed)
                refusal = plain_refusal(text)
                self.assertEqual(refusal_of(text), refusal, text)
                refused[refusal] = refused.get(refusal, 0) + 1
                if refusal is None:
                    self.assertEqual(written(*read(text)), text)
        for refusal in [None, ("NoYard", None), ("NoGuest", None)] + [("NoText", row) for row in range(12)]:
            self.assertIn(refusal, refused)

    def test_signs_put_in_and_taken_out(self):
        source = random.Random(62)
        for _, yard, guests in made_cases(63, 20):
            text = written(yard, guests)
            for _ in range(40):
                at = source.randrange(len(text))
                sign = source.choice(" \n-+0123456789x\t\r.")
                for changed in (text[:at] + sign + text[at:], text[:at] + text[at + 1:], text[:at] + sign + text[at + 1:]):
                    self.assertEqual(refusal_of(changed), plain_refusal(changed), changed)

    def test_long_texts(self):
        for text in ("\n" * 10000, " " * 10000, "9" * 10000, "yard " + "9" * 9990, "yard 1\n" * 1400,
                     "yard 1\nline -" + " 5" * 4900, "yard 1\nline - 5\n" + "guest 0 0 0 1 1\n" * 600,
                     "yard 1\nline - 5" + "\nline 0 5" * 1000):
            self.assertEqual(refusal_of(text), plain_refusal(text))
        self.assertEqual(plain_row("yard 1\nline -" + " 5" * 4900), None)


class OwnedTest(unittest.TestCase):
    def test_the_told_list_is_the_askers_own(self):
        for text in (DEEP_TEXT, "yard 1\nline - 5"):
            one, other = read(text), read(text)
            kept = list(other[1])
            one[1].append((0, 0, 0, 1, 1))
            self.assertEqual(other[1], kept)
            self.assertEqual(read(text)[1], kept)


if __name__ == "__main__":
    unittest.main()
