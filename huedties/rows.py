"""Rows of two hues: ties that have one hue and the other by turns."""

from huedties.errors import NoRow
from huedties.hueings import is_hueing
from huedties.webs import check_place, count_at, far_end, has_tie, only, parts, ties_at, within


def tie_of_hue(web, hueing, place, hue):
    for tie in ties_at(web, place):
        if hueing[tie] == hue:
            return tie
    return None


def check_unlike(one, other):
    if one == other:
        raise NoRow("both hues are alike")


def row_from(web, hueing, place, one, other):
    check_place(web, place)
    check_unlike(one, other)
    if tie_of_hue(web, hueing, place, other) is not None:
        raise NoRow("the row would not begin at this place")
    row = []
    tie = tie_of_hue(web, hueing, place, one)
    # The row has an end: the place lacks the other hue, so the ways never lead back to it.
    while tie is not None:
        row.append(tie)
        place = far_end(web, tie, place)
        one, other = other, one
        tie = tie_of_hue(web, hueing, place, one)
    return row


def word_of(web, places):
    return "ring" if all([count_at(web, place) == 2 for place in places]) else "open"


def rows_of(web, hueing, one, other):
    check_unlike(one, other)
    ties = [tie for tie, hue in enumerate(hueing) if hue in (one, other)]
    both = only(web, ties)
    found = []
    for places in parts(both):
        row = [ties[at] for at in within(both, places)]
        if row:
            found.append((word_of(both, places), row))
    return sorted(found, key=lambda told: told[1][0])


def exchanged(web, hueing, ties, one, other):
    check_unlike(one, other)
    changed = list(hueing)
    for tie in ties:
        if not has_tie(web, tie) or hueing[tie] not in (one, other):
            raise NoRow("a tie has neither hue")
        changed[tie] = other if hueing[tie] == one else one
    if not is_hueing(web, changed):
        raise NoRow("what comes is no hueing")
    return changed
