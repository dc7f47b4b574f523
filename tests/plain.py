"""The points' own words, worked out the long way round: what the program tells is held against it."""

import itertools
import re
from fractions import Fraction

from samples import is_beneath


def plain_faults(yard, guests, filling):
    """All faults in their order, straight from the document's words."""
    faults = []
    for number, (_, first, last, want, most) in enumerate(guests):
        for turn, take in enumerate(filling[number]):
            if take < 0:
                faults.append(("below", number, turn))
            if take != 0 and not first <= turn <= last:
                faults.append(("away", number, turn))
            if take > most:
                faults.append(("most", number, turn))
        if sum(filling[number]) > want:
            faults.append(("want", number))
    for line, (_, bounds) in enumerate(yard[1]):
        for turn, bound in enumerate(bounds):
            load = sum(takes[turn] for guest, takes in zip(guests, filling) if is_beneath(yard, guest[0], line))
            if load > bound:
                faults.append(("line", line, turn))
    return faults


def plain_reach(yard, guests, some, line, turn):
    """What reaches a line, straight from the document's words."""
    mosts = [guests[n][4] for n in some if guests[n][0] == line and guests[n][1] <= turn <= guests[n][2]]
    straight = [k for k, (above, _) in enumerate(yard[1]) if above == line]
    return sum(mosts) + sum(min(yard[1][k][1][turn], plain_reach(yard, guests, some, k, turn)) for k in straight)


def plain_given(yard, guests, some, turn):
    return min(yard[1][0][1][turn], plain_reach(yard, guests, some, 0, turn))


def plain_given_all(yard, guests, some):
    return sum(plain_given(yard, guests, some, turn) for turn in range(yard[0]))


def plain_short(yard, guests, some):
    return sum(guests[n][3] for n in some) - plain_given_all(yard, guests, some)


def gifts_at(yard, guests, turn):
    """All that the guests can take together at a turn, wants aside: tuples, guest by guest."""
    ranges = [range(most + 1) if first <= turn <= last else range(1) for _, first, last, _, most in guests]
    for gifts in itertools.product(*ranges):
        loads = [0] * len(yard[1])
        for guest, gift in zip(guests, gifts):
            for line in range(len(loads)):
                loads[line] += gift if is_beneath(yard, guest[0], line) else 0
        if all(load <= bounds[turn] for load, (_, bounds) in zip(loads, yard[1])):
            yield gifts


def all_totals(yard, guests):
    """The totals of every filling without a fault: a set of tuples, found by trying all, turn by turn."""
    reached = {tuple(0 for _ in guests)}
    for turn in range(yard[0]):
        gifts_now = list(gifts_at(yard, guests, turn))
        tried = {tuple(t + g for t, g in zip(totals, gifts)) for totals in reached for gifts in gifts_now}
        reached = {totals for totals in tried if all(t <= guest[3] for t, guest in zip(totals, guests))}
    return reached


def plain_lack(yard, guests):
    return sum(guest[3] for guest in guests) - max(sum(totals) for totals in all_totals(yard, guests))


def plain_lowered(yard, p):
    (above, bounds), *others = yard[1]
    return (yard[0], ((above, tuple(bound if bound < p else p for bound in bounds)), *others))


def plain_peak(yard, guests):
    """The least peak by trying 0, 1, 2 and so on; None where the yard itself lacks."""
    wants = tuple(guest[3] for guest in guests)
    for p in range(max(yard[1][0][1]) + 1):
        if wants in all_totals(plain_lowered(yard, p), guests):
            return p
    return None


def plain_shares(yard, guests):
    """The fairest shares by trying all sets: again and again the narrowest of those left, beside those found ahead."""
    shares = {}
    while len(shares) < len(guests):
        found = sorted(shares)
        left = [number for number in range(len(guests)) if number not in shares]
        lowest, held = Fraction(1), left
        for size in range(1, len(left) + 1):
            for some in itertools.combinations(left, size):
                spare = plain_given_all(yard, guests, found + list(some)) - plain_given_all(yard, guests, found)
                share = Fraction(spare, sum(guests[number][3] for number in some))
                if share < lowest:
                    lowest, held = share, some
        shares.update({number: lowest for number in held})
    return [shares[number] for number in range(len(guests))]


NUMBER = "(?:0|[1-9][0-9]{0,29})"
FORMS = {
    "yard": f"yard {NUMBER}",
    "line": f"line (?:-|{NUMBER})(?: {NUMBER})+",
    "guest": f"guest(?: {NUMBER}){{5}}",
}


def plain_kind(row):
    """Which of the three rows this one is written as; None where it is none."""
    for kind, form in FORMS.items():
        if re.fullmatch(form, row):
            return kind
    return None


def plain_row(text):
    """The row for which a text is refused with NoText; None where there is none."""
    if not isinstance(text, str):
        return 0
    kinds = [plain_kind(row) for row in text.split("\n")]
    for place, kind in enumerate(kinds):
        if kind is None or (kind == "yard") != (place == 0) or (place == 1 and kind != "line"):
            return place
        if kind == "line" and "guest" in kinds[:place]:
            return place
    return None if len(kinds) > 1 else 1


def is_plain_yard(turns, lines):
    if not 1 <= turns <= 8 or not 1 <= len(lines) <= 5:
        return False
    for line, words in enumerate(lines):
        if len(words) != 1 + turns or (words[0] == "-") != (line == 0):
            return False
        if line and int(words[0]) >= line:
            return False
    return True


def is_plain_guest(turns, lines, numbers):
    line, first, last, want, most = numbers
    return line < len(lines) and first <= last < turns and want > 0 and most > 0


def plain_refusal(text):
    """Why a text is refused, as the name of the class and the row: straight from the document's words."""
    row = plain_row(text)
    if row is not None:
        return ("NoText", row)
    rows = [row.split(" ") for row in text.split("\n")]
    turns = int(rows[0][1])
    lines = [words[1:] for words in rows if words[0] == "line"]
    guests = [[int(word) for word in words[1:]] for words in rows if words[0] == "guest"]
    if not is_plain_yard(turns, lines):
        return ("NoYard", None)
    if len(guests) > 8 or not all(is_plain_guest(turns, lines, numbers) for numbers in guests):
        return ("NoGuest", None)
    return None
