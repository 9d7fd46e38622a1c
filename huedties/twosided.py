"""Hues for webs of two sides, no more than the greatest count of a place."""

from huedties.halving import halves
from huedties.hueings import free_at
from huedties.pairings import full_pairing
from huedties.sides import sides_of
from huedties.story import played
from huedties.webs import most_at, only


def steps_by_row(web, hueing, tie, hues):
    """The steps that give a tie a hue, behind a row where no hue is free at both of its places."""
    one, other = web[1][tie]
    here = free_at(web, hueing, one, hues)
    there = free_at(web, hueing, other, hues)
    both = [hue for hue in here if hue in there]
    if both:
        return [("hue", tie, both[0])]
    # The row from other comes to the side of one by ties of the hue here[0] alone, so never to one itself.
    return [("row", other, here[0], there[0]), ("hue", tie, here[0])]


def by_rows(web):
    # Asked for its refusal alone.
    sides_of(web)
    hues = most_at(web)
    hueing = [None] * len(web[1])
    steps = []
    for tie in range(len(web[1])):
        added = steps_by_row(web, hueing, tie, hues)
        hueing = played(web, hueing, added)[-1]
        steps.extend(added)
    return (hueing, steps)


def by_pairings(web):
    # Asked for its refusal alone.
    sides_of(web)
    told = []
    left = list(range(len(web[1])))
    while left:
        row = [left[at] for at in full_pairing(only(web, left))]
        told.append(row)
        left = [tie for tie in left if tie not in row]
    return told


def rows_by_halves(web, ties):
    """These ties in as many lists as their greatest count, no two in one meeting."""
    among = only(web, ties)
    most = most_at(among)
    if most == 0:
        return []
    # An odd count isn't halved evenly; without a full pairing it is one less, so even.
    if most % 2 == 1:
        row = [ties[at] for at in full_pairing(among)]
        return [row] + rows_by_halves(web, [tie for tie in ties if tie not in row])
    one, other = halves(among)
    return rows_by_halves(web, [ties[at] for at in one]) + rows_by_halves(web, [ties[at] for at in other])


def by_halves(web):
    # Asked for its refusal alone.
    sides_of(web)
    hueing = [None] * len(web[1])
    for hue, row in enumerate(rows_by_halves(web, list(range(len(web[1]))))):
        for tie in row:
            hueing[tie] = hue
    return hueing
