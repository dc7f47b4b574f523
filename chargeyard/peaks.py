"""The least peak: how far line 0 can be lowered so that all are still filled."""

from chargeyard.filled import best_filling, lacking_set, refuse_lack
from chargeyard.giving import given_at, short_of
from chargeyard.yards import turns_of


def yard_lowered(yard, p):
    first = yard[1][0]
    lowered = (first[0], tuple([min(bound, p) for bound in first[1]]))
    return (yard[0], (lowered,) + yard[1][1:])


def short_lowered(yard, guests, some, p):
    return short_of(yard_lowered(yard, p), guests, some)


def turns_held(yard, guests, some, p):
    """How many turns there are at which p alone holds back what the set can be given."""
    return len([turn for turn in range(turns_of(yard)) if given_at(yard, guests, some, turn) > p])


def rise_due(yard, guests, some, p):
    """How far p must rise at least: raised by one less, the set is still short."""
    # With p one more the set gets one more at each of these turns at most. There is such a turn:
    # without one the set would be short in the yard itself.
    held = turns_held(yard, guests, some, p)
    return (short_lowered(yard, guests, some, p) + held - 1) // held


def least_peak(yard, guests):
    refuse_lack(yard, guests)
    p = 0
    shown = []
    some = lacking_set(yard_lowered(yard, p), guests)
    # The set told has the greatest short, so the next one is held back at fewer turns:
    # there are no more rounds than turns, however great the numbers are.
    while short_lowered(yard, guests, some, p) > 0:
        p += rise_due(yard, guests, some, p)
        shown = some
        some = lacking_set(yard_lowered(yard, p), guests)
    return (p, best_filling(yard_lowered(yard, p), guests), shown)
