"""The fairest filling in parts: its levels, some such filling, and whether one is such a one."""

from chargeyard.filled import best_filling, lacking_set
from chargeyard.fillings import fault_of, totals_of
from chargeyard.fractions import common_bottom, fraction, is_fairer
from chargeyard.giving import given_most
from chargeyard.yards import guests_times, want_of, with_want, yard_times


def asking(guests, totals, k):
    """The guests times k, each wanting this total, a fraction, times k."""
    wants = [total[0] * k // total[1] for total in totals]
    return [with_want(guest, want) for guest, want in zip(guests_times(guests, k), wants)]


def share_left(yard, guests, ahead, some):
    """The share that a set can have in all, where those ahead get all that they can be given."""
    left = given_most(yard, guests, ahead + some) - given_most(yard, guests, ahead)
    return fraction(left, sum([want_of(guests[number]) for number in some]))


def most_short(yard, guests, ahead, share):
    """Those not ahead in some set that is the most short where each guest is to have the share."""
    # The shares of those ahead are no greater than this one: so no set is less short with all of them than without,
    # and those told here are, of all that are left, the most short of what is left to them.
    totals = [(want_of(guest) * share[0], share[1]) for guest in guests]
    some = lacking_set(yard_times(yard, share[1]), asking(guests, totals, share[1]))
    return [number for number in some if number not in ahead]


def next_level(yard, guests, ahead):
    """The greatest share that all those not ahead can have, and those of them that can have no more."""
    share = (1, 1)
    level = [number for number in range(len(guests)) if number not in ahead]
    some = most_short(yard, guests, ahead, share)
    # Each set told is the most short by a share that is too great. So the next one wants less than it, and there are
    # no more rounds than guests, however great the numbers are; and the last one has all that can have no more.
    while some and is_fairer([share], [share_left(yard, guests, ahead, some)]):
        share = share_left(yard, guests, ahead, some)
        level = some
        some = most_short(yard, guests, ahead, share)
    return (share, level)


def fair_levels(yard, guests):
    levels = []
    ahead = []
    while len(ahead) < len(guests):
        level = next_level(yard, guests, ahead)
        levels.append(level)
        ahead = ahead + level[1]
    return levels


def fair_shares(yard, guests):
    """The shares, guest by guest."""
    shares = {}
    for share, some in fair_levels(yard, guests):
        for number in some:
            shares[number] = share
    return [shares[number] for number in range(len(guests))]


def fairest(yard, guests):
    shares = fair_shares(yard, guests)
    totals = [fraction(want_of(guest) * share[0], share[1]) for guest, share in zip(guests, shares)]
    # One alone at its level has a whole total; where several are, the bottoms divide the sum of their wants. Of eight
    # guests there are four such levels at most: so this number has fewer figures than five wants together.
    k = common_bottom(totals)
    return (k, best_filling(yard_times(yard, k), asking(guests, totals, k)))


def is_fairest(yard, guests, k, filling):
    many = guests_times(guests, k)
    if fault_of(yard_times(yard, k), many, filling) is not None:
        return False
    shares = [fraction(total, want_of(guest)) for total, guest in zip(totals_of(filling), many)]
    return shares == fair_shares(yard, guests)
