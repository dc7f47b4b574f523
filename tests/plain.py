"""The points' own words, worked out the long way round: what the program tells is held against it."""

import itertools

from samples import is_beneath


def plain_faults(yard, guests, filling):
    """All faults in their order, straight from the document's words."""
    faults = []
    for number, (_, first, last, want, most) in enumerate(guests):
        for turn, take in enumerate(filling[number]):
            if take < 0:
                faults.append(("below", number, turn))
            if take != 0 and not first <= turn <= last:
                faults.append(("away", number, turn))
            if take > most:
                faults.append(("most", number, turn))
        if sum(filling[number]) > want:
            faults.append(("want", number))
    for line, (_, bounds) in enumerate(yard[1]):
        for turn, bound in enumerate(bounds):
            load = sum(takes[turn] for guest, takes in zip(guests, filling) if is_beneath(yard, guest[0], line))
            if load > bound:
                faults.append(("line", line, turn))
    return faults


def plain_reach(yard, guests, some, line, turn):
    """What reaches a line, straight from the document's words."""
    mosts = [guests[n][4] for n in some if guests[n][0] == line and guests[n][1] <= turn <= guests[n][2]]
    straight = [k for k, (above, _) in enumerate(yard[1]) if above == line]
    return sum(mosts) + sum(min(yard[1][k][1][turn], plain_reach(yard, guests, some, k, turn)) for k in straight)


def plain_given(yard, guests, some, turn):
    return min(yard[1][0][1][turn], plain_reach(yard, guests, some, 0, turn))


def plain_short(yard, guests, some):
    given = sum(plain_given(yard, guests, some, turn) for turn in range(yard[0]))
    return sum(guests[n][3] for n in some) - given


def gifts_at(yard, guests, turn):
    """All that the guests can take together at a turn, wants aside: tuples, guest by guest."""
    ranges = [range(most + 1) if first <= turn <= last else range(1) for _, first, last, _, most in guests]
    for gifts in itertools.product(*ranges):
        loads = [0] * len(yard[1])
        for guest, gift in zip(guests, gifts):
            for line in range(len(loads)):
                loads[line] += gift if is_beneath(yard, guest[0], line) else 0
        if all(load <= bounds[turn] for load, (_, bounds) in zip(loads, yard[1])):
            yield gifts


def all_totals(yard, guests):
    """The totals of every filling without a fault: a set of tuples, found by trying all, turn by turn."""
    reached = {tuple(0 for _ in guests)}
    for turn in range(yard[0]):
        gifts_now = list(gifts_at(yard, guests, turn))
        tried = {tuple(t + g for t, g in zip(totals, gifts)) for totals in reached for gifts in gifts_now}
        reached = {totals for totals in tried if all(t <= guest[3] for t, guest in zip(totals, guests))}
    return reached


def plain_lack(yard, guests):
    return sum(guest[3] for guest in guests) - max(sum(totals) for totals in all_totals(yard, guests))


def plain_lowered(yard, p):
    (above, bounds), *others = yard[1]
    return (yard[0], ((above, tuple(bound if bound < p else p for bound in bounds)), *others))


def plain_peak(yard, guests):
    """The least peak by trying 0, 1, 2 and so on; None where the yard itself lacks."""
    wants = tuple(guest[3] for guest in guests)
    for p in range(max(yard[1][0][1]) + 1):
        if wants in all_totals(plain_lowered(yard, p), guests):
            return p
    return None
