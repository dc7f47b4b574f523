"""What a set of guests can be given, where the lines are narrow for it, and its short."""

from chargeyard.yards import above_of, bound_at, is_there, line_count, line_of, most_of, turns_of, want_of, way_up


def reaching_at(yard, guests, some, turn):
    """What reaches each line at a turn, of a set: a list, line by line."""
    reaching = [0 for line in range(line_count(yard))]
    for number in some:
        guest = guests[number]
        if is_there(guest, turn):
            reaching[line_of(guest)] += most_of(guest)
    # A line's number is greater than that of the line above it: from the last line on,
    # all that reaches a line is summed up before it passes on.
    for line in range(line_count(yard) - 1, 0, -1):
        reaching[above_of(yard, line)] += min(reaching[line], bound_at(yard, line, turn))
    return reaching


def given_at(yard, guests, some, turn):
    return min(reaching_at(yard, guests, some, turn)[0], bound_at(yard, 0, turn))


def given_most(yard, guests, some):
    return sum([given_at(yard, guests, some, turn) for turn in range(turns_of(yard))])


def lies_beneath_one(yard, line, lines):
    return any([upper in lines for upper in way_up(yard, line)[1:]])


def cuts_at(yard, guests, some, turn):
    reaching = reaching_at(yard, guests, some, turn)
    narrow = [line for line, reach in enumerate(reaching) if reach > bound_at(yard, line, turn)]
    return [line for line in narrow if not lies_beneath_one(yard, line, narrow)]


def cuts_of(yard, guests, some):
    return [cuts_at(yard, guests, some, turn) for turn in range(turns_of(yard))]


def short_of(yard, guests, some):
    return sum([want_of(guests[number]) for number in some]) - given_most(yard, guests, some)
