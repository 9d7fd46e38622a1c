"""Hues out of lists for webs of two sides, by pairings that both sides settle on."""

from huedties.errors import ShortList
from huedties.sides import sides_of
from huedties.twosided import by_rows
from huedties.webs import far_end, most_at


def place_of_side(web, sides, tie, side):
    one, other = web[1][tie]
    return one if sides[one] == side else other


def asks_of(web, sides, ties, ranks):
    """For each place of side 0 its ties, the greatest number last."""
    asks = {}
    for tie in sorted(ties, key=lambda other: ranks[other]):
        place = place_of_side(web, sides, tie, 0)
        asks[place] = asks.get(place, []) + [tie]
    return asks


def settled_pairs(web, ties, ranks):
    sides = sides_of(web)
    asks = asks_of(web, sides, ties, ranks)
    held = {}
    waiting = list(asks)
    # A place of side 0 asks by its ties, the greatest number first, as long as none is held; one of side 1 holds the
    # least that it is asked by. So a tie that never was asked by meets a greater one at side 0, and one that isn't
    # held any more a lesser one at side 1.
    while waiting:
        place = waiting.pop()
        if asks[place]:
            tie = asks[place].pop()
            far = far_end(web, tie, place)
            best = held.get(far)
            if best is None or ranks[tie] < ranks[best]:
                held[far] = tie
                tie = best
            if tie is not None:
                waiting.append(place_of_side(web, sides, tie, 0))
    return sorted(list(held.values()))


def check_long(web, lists):
    most = most_at(web)
    for tie, hues in enumerate(lists):
        if len(hues) < most:
            raise ShortList(tie)


def by_wishes(web, lists):
    # Asked for its refusal alone.
    sides_of(web)
    check_long(web, lists)
    ranks = by_rows(web)[0]
    hueing = [None] * len(web[1])
    # A tie meets fewer than most_at others that it may give way to: those of greater hues in ranks at its place of
    # side 0, and of lesser ones at the other. Each hue of its list that it doesn't get takes one of these away.
    for hue in sorted({wish for hues in lists for wish in hues}):
        ties = [tie for tie, hues in enumerate(lists) if hueing[tie] is None and hue in hues]
        for tie in settled_pairs(web, ties, ranks):
            hueing[tie] = hue
    return hueing
