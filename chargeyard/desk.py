"""The desk: a hand that is told rows and answers with texts."""

from chargeyard.errors import NoRoom, NoRow
from chargeyard.hands import Hand
from chargeyard.texts import are_numbers, numbers_of, read
from chargeyard.yards import line_count, turns_of

# How many numbers stand behind each word.
COUNTS = {"come": 5, "turn": 0, "leave": 1, "got": 1, "rest": 1, "bound": 3, "open": 0, "now": 0}


def words_of(row):
    if not isinstance(row, str):
        raise NoRow("this is no text")
    words = row.split(" ")
    if COUNTS.get(words[0]) != len(words) - 1 or not are_numbers(words[1:]):
        raise NoRow("this is no row of a desk")
    return words


def joined(parts):
    return " ".join(parts) if parts else "-"


def gifts_answer(gifts):
    return joined([f"{number}:{gift}" for number, gift in sorted(gifts.items())])


def bound_answer(hand, line, turn, bound):
    yard = hand.yard_now()
    if line >= line_count(yard) or turn >= turns_of(yard):
        raise NoRow("the yard hasn't this line or this turn")
    hand.set_bound(line, turn, bound)
    return "ok"


def answer(hand, word, numbers):
    if word == "come":
        return str(hand.come(numbers))
    if word == "turn":
        return gifts_answer(hand.turn())
    if word == "leave":
        return str(hand.leave(numbers[0]))
    if word == "got":
        return str(hand.got(numbers[0]))
    if word == "rest":
        return str(hand.rest(numbers[0]))
    if word == "bound":
        return bound_answer(hand, numbers[0], numbers[1], numbers[2])
    if word == "open":
        return joined([str(number) for number in hand.open_ones()])
    return str(hand.now())


def let_in(hand, guest):
    try:
        hand.come(guest)
    except NoRoom:
        # Who finds no room isn't let in; the desk goes on with the next one.
        pass


class Desk:
    """A hand of a text's yard, to which the text's guests have come."""

    def __init__(self, text):
        told = read(text)
        self.hand = Hand(told[0])
        for guest in told[1]:
            let_in(self.hand, guest)

    def say(self, row):
        words = words_of(row)
        return answer(self.hand, words[0], numbers_of(words[1:]))
