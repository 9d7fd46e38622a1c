"""The ties of a web of two sides in two halves, even at each place."""

from huedties.sides import sides_of
from huedties.webs import ties_at


def couples_at(web, place):
    """The ties of a place by twos; of an odd number the last has no other."""
    ties = ties_at(web, place)
    return [(ties[at], ties[at + 1]) for at in range(0, len(ties) - 1, 2)]


def halves(web):
    # Asked for its refusal alone.
    sides_of(web)
    couples = [couple for place in range(web[0]) for couple in couples_at(web, place)]
    # A web whose places are the ties, and whose ties are the couples, each to be in both halves. A ring of it goes
    # by couples of the one side and of the other by turns, so it is of two sides, too.
    half = sides_of((len(web[1]), tuple(couples)))
    return ([tie for tie, side in enumerate(half) if side == 0],
            [tie for tie, side in enumerate(half) if side == 1])
