"""The hand: knows only who has come, and lets in those to whom it can keep its promise beside all that are open."""

from chargeyard.errors import NoGuest, NoNumber, NoTime
from chargeyard.filled import best_filling, refuse_lack
from chargeyard.yards import is_guest, is_whole_within, staying_from, turns_of, want_of, with_bound, with_want


class Hand:
    """A yard, the present turn, and all that were let in, with what they have got."""

    def __init__(self, yard):
        self.yard = yard
        self.present = 0
        self.known = []
        self.given = []
        self.gone = {}
        self.made = []

    def now(self):
        return self.present

    def come(self, guest):
        if not is_guest(self.yard, guest):
            raise NoGuest("this is no guest of the yard")
        self.refuse_past(guest[1])
        refuse_lack(self.yard, self.still_there() + [guest])
        self.known.append(guest)
        self.given.append(0)
        return len(self.known) - 1

    def turn(self):
        self.refuse_past(turns_of(self.yard) - 1)
        # All promises can be kept from here on, so this fills all; its later turns show that the next turn can too.
        filling = best_filling(self.yard, self.still_there())
        gifts = {}
        for number, takes in enumerate(filling):
            if takes[self.present] > 0:
                gifts[number] = takes[self.present]
                self.given[number] += takes[self.present]
        self.made.append(gifts)
        self.present += 1
        return dict(gifts)

    def leave(self, number):
        self.refuse_number(number)
        if number in self.gone:
            raise NoNumber(number)
        self.gone[number] = True
        return self.given[number]

    def got(self, number):
        self.refuse_number(number)
        return self.given[number]

    def rest(self, number):
        self.refuse_number(number)
        if number in self.gone:
            return 0
        return want_of(self.known[number]) - self.given[number]

    def set_bound(self, line, turn, bound):
        self.refuse_past(turn)
        changed = with_bound(self.yard, line, turn, bound)
        refuse_lack(changed, self.still_there())
        self.yard = changed

    def open_ones(self):
        return [number for number in range(len(self.known)) if self.rest(number) != 0]

    def gifts(self):
        return [dict(gifts) for gifts in self.made]

    def yard_now(self):
        return self.yard

    def still_there(self):
        """All that were let in, from the present turn on, each wanting its rest; so their numbers stay theirs."""
        guests = []
        for number, guest in enumerate(self.known):
            guests.append(with_want(staying_from(guest, self.present), self.rest(number)))
        return guests

    def refuse_past(self, turn):
        if turn < self.present:
            raise NoTime("this turn is over")

    def refuse_number(self, number):
        if not is_whole_within(number, 0, len(self.known)):
            raise NoNumber(number)
