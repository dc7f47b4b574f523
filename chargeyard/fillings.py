"""Fillings: their totals, lacks and loads, and the first fault of one."""

from chargeyard.yards import bound_at, is_there, line_count, line_of, lines_beneath, most_of, turns_of, want_of


def totals_of(filling):
    return [sum(takes) for takes in filling]


def lacks_of(guests, filling):
    return [want_of(guest) - total for guest, total in zip(guests, totals_of(filling))]


def loads_of_line(yard, guests, filling, line):
    beneath = lines_beneath(yard, line)
    loads = [0 for turn in range(turns_of(yard))]
    for guest, takes in zip(guests, filling):
        if line_of(guest) in beneath:
            loads = [load + take for load, take in zip(loads, takes)]
    return loads


def loads_of(yard, guests, filling):
    return [loads_of_line(yard, guests, filling, line) for line in range(line_count(yard))]


def fault_at_turn(number, guest, turn, take):
    if take < 0:
        return ("below", number, turn)
    if take > 0 and not is_there(guest, turn):
        return ("away", number, turn)
    if take > most_of(guest):
        return ("most", number, turn)
    return None


def fault_of_guest(number, guest, takes):
    for turn, take in enumerate(takes):
        fault = fault_at_turn(number, guest, turn, take)
        if fault is not None:
            return fault
    if sum(takes) > want_of(guest):
        return ("want", number)
    return None


def fault_of_lines(yard, guests, filling):
    for line, loads in enumerate(loads_of(yard, guests, filling)):
        for turn, load in enumerate(loads):
            if load > bound_at(yard, line, turn):
                return ("line", line, turn)
    return None


def fault_of(yard, guests, filling):
    for number, guest in enumerate(guests):
        fault = fault_of_guest(number, guest, filling[number])
        if fault is not None:
            return fault
    return fault_of_lines(yard, guests, filling)
