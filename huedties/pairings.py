"""Pairings: ties of which no two meet.

While one is made, pairs is a list with the tie that each place has in it, or None.
"""

from huedties.plain import is_pair, is_rising
from huedties.sides import sides_of
from huedties.webs import count_at, far_end, has_place, has_tie, most_at, ties_at


def ways_from(web, pairs, starts):
    """The tie by which one comes to each place, and None for the starts, which are of one side and without pairs.

    One goes to the other side by any tie, and back by the ties of the pairing alone.
    """
    came = {place: None for place in starts}
    waiting = list(starts)
    while waiting:
        place = waiting.pop()
        for tie in ties_at(web, place):
            far = far_end(web, tie, place)
            if far not in came:
                came[far] = tie
                if pairs[far] is not None:
                    near = far_end(web, pairs[far], far)
                    came[near] = pairs[far]
                    waiting.append(near)
    return came


def turn_way(web, pairs, came, end):
    """Takes the ties by which the way to end goes ahead into the pairing, for those by which it goes back."""
    while end is not None:
        tie = came[end]
        near = far_end(web, tie, end)
        pairs[end] = tie
        pairs[near] = tie
        end = None if came[near] is None else far_end(web, came[near], near)


def give_pair(web, pairs, start, needed):
    """Gives the place start a tie of the pairing where it can.

    Of the other places that have one, none loses it but, at most, one of fewer ties than needed.
    """
    came = ways_from(web, pairs, [start])
    for place in [other for other in came if other != start]:
        if pairs[place] is None:
            turn_way(web, pairs, came, place)
            return
        # To a place of the side of start one comes by its tie of the pairing.
        if pairs[place] == came[place] and count_at(web, place) < needed:
            pairs[place] = None
            turn_way(web, pairs, came, far_end(web, came[place], place))
            return


def ties_of(pairs):
    return sorted({tie for tie in pairs if tie is not None})


def pairing(web):
    sides = sides_of(web)
    pairs = [None] * web[0]
    for place in range(web[0]):
        if sides[place] == 0:
            give_pair(web, pairs, place, 0)
    starts = [place for place in range(web[0]) if sides[place] == 0 and pairs[place] is None]
    came = ways_from(web, pairs, starts)
    # A tie of a place of side 0 that is come to leads to one of side 1 that is; of each tie of the pairing both
    # places are come to, or neither is. So these are as many as its ties, and each tie has one.
    cover = [place for place in range(web[0]) if (place in came) == (sides[place] == 1)]
    return (ties_of(pairs), cover)


def shows_pairing(web, thing):
    if not is_pair(thing):
        return False
    ties, cover = thing
    if not is_rising(ties) or not is_rising(cover) or len(ties) != len(cover):
        return False
    if not all([has_tie(web, tie) for tie in ties]) or not all([has_place(web, place) for place in cover]):
        return False
    ends = [place for tie in ties for place in web[1][tie]]
    if len(set(ends)) != len(ends):
        return False
    return all([one in cover or other in cover for one, other in web[1]])


def full_pairing(web):
    # Asked for its refusal alone.
    sides_of(web)
    pairs = [None] * web[0]
    most = most_at(web)
    for place in range(web[0]):
        # A way is always there: were all places of this side that are come to ones of most ties, and all of the
        # other side paired, the former, one more than the latter, would have more ties than these can hold.
        if pairs[place] is None and count_at(web, place) == most:
            give_pair(web, pairs, place, most)
    return ties_of(pairs)
