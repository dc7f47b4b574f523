"""What several test files share: sample yards and guests, and made-up ones from a fixed seed."""

import random

TOP = 10 ** 30 - 1
ONE_LINE = (1, ((None, (5,)),))
# Line 1 and 2 lie beneath 0, line 3 beneath 1, line 4 beneath 3.
DEEP = (3, ((None, (9, 8, 7)), (0, (5, 6, 4)), (0, (4, 0, 3)), (1, (3, 3, 3)), (3, (2, 1, 2))))
DEEP_GUESTS = [(0, 0, 2, 6, 3), (1, 0, 1, 7, 4), (2, 1, 2, 4, 2), (3, 0, 2, 5, 3), (4, 2, 2, 3, 3)]
EIGHT_TURNS = (8, ((None, (4, 4, 0, 4, 4, 4, 4, TOP)), (0, (1, 2, 3, 4, 5, 6, 7, 8))))


def made_yard(source, greatest, most_turns=8, most_lines=5):
    turns = source.randint(1, most_turns)
    lines = []
    for line in range(source.randint(1, most_lines)):
        above = source.randrange(line) if line else None
        lines.append((above, tuple(source.randint(0, greatest) for _ in range(turns))))
    return (turns, tuple(lines))


def made_guests(source, yard, greatest, most_guests=8):
    guests = []
    for _ in range(source.randint(0, most_guests)):
        first = source.randrange(yard[0])
        last = source.randrange(first, yard[0])
        line = source.randrange(len(yard[1]))
        guests.append((line, first, last, source.randint(1, greatest), source.randint(1, greatest)))
    return guests


def made_cases(seed, count, greatest=9):
    source = random.Random(seed)
    for _ in range(count):
        yard = made_yard(source, greatest)
        yield source, yard, made_guests(source, yard, greatest)


def small_cases(seed, count):
    """So small that every filling can be tried."""
    source = random.Random(seed)
    for _ in range(count):
        yard = made_yard(source, 4, 3, 4)
        yield yard, made_guests(source, yard, 3, 3)


def filled_cases(seed, count, greatest=9):
    """Cases that can be filled: each guest wants just what some filling without a fault gives it."""
    for source, yard, guests in made_cases(seed, count, greatest):
        totals = [sum(takes) for takes in made_filling(source, yard, guests)]
        yield yard, [guest[:3] + (total,) + guest[4:] for guest, total in zip(guests, totals) if total > 0]


def all_sets(guests):
    return [[n for n in range(len(guests)) if mask >> n & 1] for mask in range(2 ** len(guests))]


def is_beneath(yard, line, upper):
    """Whether line is upper or lies beneath it, straight from the document's words."""
    if line == upper:
        return True
    above = yard[1][line][0]
    return above is not None and is_beneath(yard, above, upper)


def made_filling(source, yard, guests):
    """A filling without a fault: each takes at each turn some of what is still left to it."""
    left = [list(bounds) for _, bounds in yard[1]]
    filling = []
    for line, first, last, want, most in guests:
        ways = [k for k in range(len(yard[1])) if is_beneath(yard, line, k)]
        takes = [0] * yard[0]
        for turn in range(first, last + 1):
            room = min([most, want - sum(takes)] + [left[k][turn] for k in ways])
            takes[turn] = source.choice([room, source.randint(0, room)])
            for k in ways:
                left[k][turn] -= takes[turn]
        filling.append(takes)
    return filling


def is_whole(thing):
    return isinstance(thing, int) and not isinstance(thing, bool)
