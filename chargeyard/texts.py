"""Yards and guests as texts: written, and read of anything."""

from chargeyard.errors import NoGuest, NoText, NoYard
from chargeyard.yards import is_guest, is_yard


def row_of(word, numbers):
    return " ".join([word] + [str(number) for number in numbers])


def line_row(line):
    above = "-" if line[0] is None else line[0]
    return row_of("line", (above,) + line[1])


def written(yard, guests):
    rows = [row_of("yard", [yard[0]])]
    rows.extend([line_row(line) for line in yard[1]])
    rows.extend([row_of("guest", guest) for guest in guests])
    return "\n".join(rows)


def is_number(word):
    # Python holds signs of other scripts for figures too, and refuses to read some thousands of figures.
    if not 1 <= len(word) <= 30 or not all([sign in "0123456789" for sign in word]):
        return False
    return word == "0" or word[0] != "0"


def are_numbers(words):
    return all([is_number(word) for word in words])


def is_yard_row(words):
    return words[0] == "yard" and len(words) == 2 and is_number(words[1])


def is_line_row(words):
    if words[0] != "line" or len(words) < 3:
        return False
    return (words[1] == "-" or is_number(words[1])) and are_numbers(words[2:])


def is_guest_row(words):
    return words[0] == "guest" and len(words) == 6 and are_numbers(words[1:])


def is_row_at(rows, place):
    """Whether a row is written as it must be and may stand there, where all rows ahead of it do."""
    if place == 0:
        return is_yard_row(rows[place])
    if is_line_row(rows[place]):
        return not is_guest_row(rows[place - 1])
    return place > 1 and is_guest_row(rows[place])


def rows_of(text):
    """The rows, each as a list of its words."""
    if not isinstance(text, str):
        raise NoText(0)
    rows = [row.split(" ") for row in text.split("\n")]
    for place in range(len(rows)):
        if not is_row_at(rows, place):
            raise NoText(place)
    if len(rows) < 2:
        raise NoText(len(rows))
    return rows


def numbers_of(words):
    return tuple([int(word) for word in words])


def line_told(words):
    above = None if words[1] == "-" else int(words[1])
    return (above, numbers_of(words[2:]))


def yard_told(rows):
    lines = [line_told(words) for words in rows if is_line_row(words)]
    yard = (int(rows[0][1]), tuple(lines))
    if not is_yard(yard):
        raise NoYard("the rows yard and line tell no yard")
    return yard


def guests_told(rows, yard):
    guests = [numbers_of(words[1:]) for words in rows if is_guest_row(words)]
    if len(guests) > 8:
        raise NoGuest("there are more than eight guests")
    if not all([is_guest(yard, guest) for guest in guests]):
        raise NoGuest("a row tells no guest of the yard")
    return guests


def read(text):
    rows = rows_of(text)
    yard = yard_told(rows)
    return (yard, guests_told(rows, yard))
