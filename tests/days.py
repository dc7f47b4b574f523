"""Days at a hand or at a desk: many deeds, each answer of which is held against the points' own words."""

from chargeyard.errors import NoGuest, NoNumber, NoRoom, NoTime, YardError
from plain import plain_given
from samples import all_sets, is_beneath, is_whole, made_yard


class DeskHand:
    """A desk that is asked as a hand is."""

    def __init__(self, desk):
        self.desk = desk

    def number(self, *words):
        told = self.desk.say(" ".join(str(word) for word in words))
        number = int(told)
        assert told == str(number), told
        return number

    def now(self):
        return self.number("now")

    def come(self, guest):
        return self.number("come", *guest)

    def turn(self):
        told = self.desk.say("turn")
        if told == "-":
            return {}
        pairs = [tuple(int(word) for word in pair.split(":")) for pair in told.split(" ")]
        assert told == " ".join(f"{number}:{gift}" for number, gift in sorted(pairs)), told
        return dict(pairs)

    def leave(self, number):
        return self.number("leave", number)

    def got(self, number):
        return self.number("got", number)

    def rest(self, number):
        return self.number("rest", number)

    def set_bound(self, line, turn, bound):
        told = self.desk.say(f"bound {line} {turn} {bound}")
        assert told == "ok", told

    def open_ones(self):
        told = self.desk.say("open")
        numbers = [] if told == "-" else [int(word) for word in told.split(" ")]
        assert told == (" ".join(str(number) for number in numbers) or "-"), told
        return numbers


class Day:
    """Knows by itself all that was done at a hand, so that it can tell what each answer must be."""

    def __init__(self, test, hand, yard):
        self.test = test
        self.hand = hand
        self.turns = yard[0]
        self.lines = [(above, list(bounds)) for above, bounds in yard[1]]
        self.present = 0
        self.guests = []
        self.given = []
        self.gone = []
        self.told = []
        self.refused = {NoGuest: 0, NoTime: 0, NoRoom: 0, NoNumber: 0}

    def yard(self):
        return (self.turns, tuple((above, tuple(bounds)) for above, bounds in self.lines))

    def rests(self):
        pairs = enumerate(zip(self.guests, self.given))
        return [0 if number in self.gone else guest[3] - given for number, (guest, given) in pairs]

    def overdue(self, yard, guests, rests, some):
        """By how much the rests of a set are more than it can be given from the present turn on."""
        given = sum(plain_given(yard, guests, some, turn) for turn in range(self.present, self.turns))
        return sum(rests[number] for number in some) - given

    def shown(self, yard, guests, rests):
        """Whether some set shows that the promises can't be kept."""
        return any(self.overdue(yard, guests, rests, some) > 0 for some in all_sets(guests))

    def state(self):
        numbers = range(len(self.guests))
        told = [self.hand.now(), self.hand.open_ones()]
        told += [(self.hand.got(number), self.hand.rest(number)) for number in numbers]
        if not isinstance(self.hand, DeskHand):
            told += [self.hand.gifts(), self.hand.yard_now()]
        return told

    def check(self):
        """That all that can be asked is told as it must be."""
        rests = self.rests()
        must = [self.present, [number for number, rest in enumerate(rests) if rest != 0]]
        must += list(zip(self.given, rests))
        if not isinstance(self.hand, DeskHand):
            must += [self.told, self.yard()]
        self.test.assertEqual(self.state(), must)
        for number, guest in enumerate(self.guests):
            if guest[2] < self.present and number not in self.gone:
                self.test.assertEqual(self.given[number], guest[3])

    def refuses(self, kind, *deed):
        before = self.state()
        with self.test.assertRaises(YardError) as caught:
            getattr(self.hand, deed[0])(*deed[1:])
        self.test.assertIs(type(caught.exception), kind)
        self.test.assertEqual(self.state(), before)
        self.refused[kind] += 1
        return caught.exception

    def refuses_room(self, yard, guests, rests, *deed):
        some = self.refuses(NoRoom, *deed).some
        self.test.assertIsInstance(some, list)
        self.test.assertIn(some, all_sets(guests))
        self.test.assertGreater(self.overdue(yard, guests, rests, some), 0)
        some.clear()

    def come(self, guest):
        guests, rests = self.guests + [guest], self.rests() + [guest[3]]
        if guest[1] < self.present:
            self.refuses(NoTime, "come", guest)
        elif self.shown(self.yard(), guests, rests):
            self.refuses_room(self.yard(), guests, rests, "come", guest)
        else:
            told = self.hand.come(guest)
            self.test.assertTrue(is_whole(told))
            self.test.assertEqual(told, len(self.guests))
            self.guests.append(guest)
            self.given.append(0)

    def turn(self):
        if self.present == self.turns:
            self.refuses(NoTime, "turn")
            return
        gifts = self.hand.turn()
        self.test.assertIsInstance(gifts, dict)
        self.check_gifts(gifts)
        self.told.append(dict(gifts))
        for number, gift in gifts.items():
            self.given[number] += gift
        self.present += 1
        self.test.assertFalse(self.shown(self.yard(), self.guests, self.rests()))
        gifts.clear()

    def check_gifts(self, gifts):
        rests = self.rests()
        loads = [0 for line in self.lines]
        for number, gift in gifts.items():
            line, first, last, _, most = self.guests[number]
            self.test.assertTrue(is_whole(number) and is_whole(gift))
            self.test.assertTrue(0 < gift <= min(most, rests[number]))
            self.test.assertTrue(first <= self.present <= last)
            for upper in range(len(loads)):
                loads[upper] += gift if is_beneath(self.yard(), line, upper) else 0
        for load, (_, bounds) in zip(loads, self.lines):
            self.test.assertLessEqual(load, bounds[self.present])

    def leave(self, number):
        if number in self.gone or not 0 <= number < len(self.guests):
            self.refuses_number("leave", number)
        else:
            told = self.hand.leave(number)
            self.test.assertTrue(is_whole(told))
            self.test.assertEqual(told, self.given[number])
            self.gone.append(number)

    def refuses_number(self, name, number):
        self.test.assertEqual(self.refuses(NoNumber, name, number).number, number)

    def ask(self, number):
        if 0 <= number < len(self.guests):
            self.test.assertEqual(self.hand.got(number), self.given[number])
            self.test.assertEqual(self.hand.rest(number), self.rests()[number])
        else:
            self.refuses_number("got", number)
            self.refuses_number("rest", number)

    def set_bound(self, line, turn, bound):
        before = self.lines[line][1][turn]
        self.lines[line][1][turn] = bound
        if turn < self.present:
            self.refuses(NoTime, "set_bound", line, turn, bound)
            self.lines[line][1][turn] = before
        elif self.shown(self.yard(), self.guests, self.rests()):
            self.refuses_room(self.yard(), self.guests, self.rests(), "set_bound", line, turn, bound)
            self.lines[line][1][turn] = before
        else:
            self.test.assertIsNone(self.hand.set_bound(line, turn, bound))


def drawn_guest(source, day, greatest):
    first = source.randrange(max(0, min(day.present, day.turns) - 1), day.turns)
    last = source.randrange(first, day.turns)
    want, most = [source.randint(1, source.choice([3, greatest])) for _ in range(2)]
    return (source.randrange(len(day.lines)), first, last, want, most)


def drawn_number(source, day):
    least = 0 if isinstance(day.hand, DeskHand) else -2
    return source.choice([source.randint(least, len(day.guests) + 1), source.randrange(len(day.guests) + 1)])


def drawn_deed(source, day, greatest):
    deed = source.random()
    if deed < 0.4 and len(day.guests) < 8:
        day.come(drawn_guest(source, day, greatest))
    elif deed < 0.55:
        day.turn()
    elif deed < 0.65:
        day.leave(drawn_number(source, day))
    elif deed < 0.75:
        day.ask(drawn_number(source, day))
    else:
        line, turn = source.randrange(len(day.lines)), source.randrange(day.turns)
        day.set_bound(line, turn, source.choice([0, source.randint(0, greatest), day.lines[line][1][turn] * 2 // 3]))


def drawn_day(test, source, made_hand, greatest, deeds=30):
    """A whole day: deeds of all sorts, and then the turns that are left."""
    yard = made_yard(source, greatest)
    day = Day(test, made_hand(yard), yard)
    for _ in range(deeds):
        drawn_deed(source, day, greatest)
        day.check()
    while day.present < day.turns:
        day.turn()
    day.turn()
    day.check()
    test.assertEqual(day.hand.open_ones(), [])
    return day
