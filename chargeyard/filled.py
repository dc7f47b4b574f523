"""Guests filled as far as can be: the least lack, a filling that has it, and a set that shows it."""

from chargeyard.errors import NoRoom
from chargeyard.fillings import lacks_of
from chargeyard.flows import greatest_filling, guests_reached
from chargeyard.giving import short_of


def least_lack(yard, guests):
    return sum(lacks_of(guests, best_filling(yard, guests)))


def best_filling(yard, guests):
    return greatest_filling(yard, guests)


def lacking_set(yard, guests):
    # Those that aren't in this set are filled. Those in it take together all that they can be given, as nothing
    # is left that could pass to them: so the lack is theirs alone, and is just their short.
    return guests_reached(yard, guests)


def refuse_lack(yard, guests):
    some = lacking_set(yard, guests)
    if short_of(yard, guests, some) > 0:
        raise NoRoom(some)
