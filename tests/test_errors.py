import itertools
import unittest

from chargeyard.errors import NoGuest, NoNumber, NoRoom, NoRow, NoText, NoTime, NoYard, YardError

WITH_TEXT = (NoYard, NoGuest, NoTime, NoRow)
WITH_FIELD = (NoRoom, NoNumber, NoText)


class ErrorsTest(unittest.TestCase):
    def test_all_stand_under_yard_error_and_it_under_value_error(self):
        self.assertTrue(issubclass(YardError, ValueError))
        for kind in WITH_TEXT + WITH_FIELD:
            self.assertTrue(issubclass(kind, YardError), kind)

    def test_none_stands_under_another(self):
        for one, other in itertools.permutations(WITH_TEXT + WITH_FIELD, 2):
            self.assertFalse(issubclass(one, other), (one, other))

    def test_those_without_a_field_are_handed_a_text(self):
        for kind in (YardError,) + WITH_TEXT:
            with self.assertRaises(YardError) as caught:
                raise kind("some words")
            self.assertEqual(str(caught.exception), "some words")

    def test_fields(self):
        self.assertEqual(NoRoom([0, 3]).some, [0, 3])
        self.assertEqual(NoRoom([]).some, [])
        self.assertEqual(NoNumber(7).number, 7)
        self.assertEqual(NoText(0).row, 0)

    def test_raised_with_their_fields(self):
        for error, field, value in ((NoRoom([1]), "some", [1]), (NoNumber(-4), "number", -4), (NoText(12), "row", 12)):
            with self.assertRaises(YardError) as caught:
                raise error
            self.assertEqual(getattr(caught.exception, field), value)

    def test_a_set_is_copied(self):
        some = [1, 2]
        error = NoRoom(some)
        some.append(3)
        self.assertEqual(error.some, [1, 2])
        self.assertIsInstance(error.some, list)
        self.assertNotIn(some, error.args)

    def test_a_number_of_many_figures(self):
        number = 10 ** 5000
        error = NoNumber(number)
        self.assertEqual(error.number, number)
        self.assertIsInstance(str(error), str)


if __name__ == "__main__":
    unittest.main()
