"""Yards and guests: what they are, what lies beneath what, and both times a number."""


def is_whole(thing):
    # To Python a truth is an int too.
    return isinstance(thing, int) and not isinstance(thing, bool)


def is_whole_within(thing, least, end):
    return is_whole(thing) and least <= thing < end


def is_amount(thing, least):
    return is_whole_within(thing, least, 10 ** 30)


def is_tuple_of(thing, length):
    return isinstance(thing, tuple) and len(thing) == length


def is_above(thing, line):
    if line == 0:
        return thing is None
    return is_whole_within(thing, 0, line)


def are_bounds(thing, turns):
    return is_tuple_of(thing, turns) and all([is_amount(bound, 0) for bound in thing])


def is_line(thing, line, turns):
    return is_tuple_of(thing, 2) and is_above(thing[0], line) and are_bounds(thing[1], turns)


def are_lines(thing, turns):
    if not isinstance(thing, tuple) or not 1 <= len(thing) <= 5:
        return False
    return all([is_line(part, line, turns) for line, part in enumerate(thing)])


def is_yard(thing):
    return is_tuple_of(thing, 2) and is_whole_within(thing[0], 1, 9) and are_lines(thing[1], thing[0])


def is_guest(yard, thing):
    if not is_tuple_of(thing, 5):
        return False
    if not is_whole_within(thing[0], 0, line_count(yard)):
        return False
    if not is_whole_within(thing[1], 0, turns_of(yard)):
        return False
    if not is_whole_within(thing[2], thing[1], turns_of(yard)):
        return False
    return is_amount(thing[3], 1) and is_amount(thing[4], 1)


def turns_of(yard):
    return yard[0]


def line_count(yard):
    return len(yard[1])


def above_of(yard, line):
    return yard[1][line][0]


def bound_at(yard, line, turn):
    return yard[1][line][1][turn]


def line_of(guest):
    return guest[0]


def is_there(guest, turn):
    return guest[1] <= turn <= guest[2]


def want_of(guest):
    return guest[3]


def most_of(guest):
    return guest[4]


def with_want(guest, want):
    return (guest[0], guest[1], guest[2], want, guest[4])


def staying_from(guest, turn):
    """The guest without the turns of its stay that lie ahead of this one."""
    return (guest[0], max(guest[1], turn), guest[2], guest[3], guest[4])


def lines_beneath(yard, line):
    beneath = [line]
    # A line's number is greater than that of the line above it, so one walk finds all.
    for lower in range(line + 1, line_count(yard)):
        if above_of(yard, lower) in beneath:
            beneath.append(lower)
    return beneath


def way_up(yard, line):
    way = [line]
    while way[-1] != 0:
        way.append(above_of(yard, way[-1]))
    return way


def with_bound(yard, line, turn, bound):
    above = above_of(yard, line)
    bounds = yard[1][line][1]
    changed = (above, bounds[:turn] + (bound,) + bounds[turn + 1:])
    return (yard[0], yard[1][:line] + (changed,) + yard[1][line + 1:])


def line_times(line, k):
    return (line[0], tuple([bound * k for bound in line[1]]))


def yard_times(yard, k):
    return (yard[0], tuple([line_times(line, k) for line in yard[1]]))


def guest_times(guest, k):
    return (guest[0], guest[1], guest[2], guest[3] * k, guest[4] * k)


def guests_times(guests, k):
    return [guest_times(guest, k) for guest in guests]
