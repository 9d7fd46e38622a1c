"""Fans, and hues for ties by turning them."""

from huedties.errors import NoFan, TooFew
from huedties.hueings import free_at
from huedties.story import done_step, played
from huedties.webs import check_tie, enough, far_end, ties_at


def next_of_fan(hueing, fan, around, free):
    """The next pair of a fan, free being the free hues of the far ends of its ties; None where it ends."""
    there = [tie for tie, back in fan]
    for tie in around:
        if tie not in there:
            for back, hues in enumerate(free):
                if hueing[tie] in hues:
                    return (tie, back)
    return None


def fan_of(web, hueing, tie, place, hues):
    # Asked for its refusals alone.
    far_end(web, tie, place)
    if hueing[tie] is not None:
        raise NoFan("the tie has a hue")
    around = ties_at(web, place)
    fan = []
    free = []
    pair = (tie, None)
    while pair is not None:
        fan.append(pair)
        far = far_end(web, pair[0], place)
        free.append(free_at(web, hueing, far, hues))
        pair = next_of_fan(hueing, fan, around, free)
    return fan


def turning(fan, at, hue):
    way = [fan[at][0]]
    back = fan[at][1]
    while back is not None:
        way.append(fan[back][0])
        back = fan[back][1]
    way.reverse()
    steps = [("move", way[k + 1], way[k]) for k in range(len(way) - 1)]
    steps.append(("hue", way[-1], hue))
    return steps


def turned(web, hueing, fan, place, hues):
    """The steps that turn the fan to a hue free at both places of one of its ties; None where there is none."""
    own = free_at(web, hueing, place, hues)
    for at, (tie, back) in enumerate(fan):
        free = free_at(web, hueing, far_end(web, tie, place), hues)
        shared = [hue for hue in own if hue in free]
        if shared:
            return turning(fan, at, shared[0])
    return None


def shared_hue(web, hueing, fan, place, hues):
    """A hue that is free at two unlike far ends of the fan, and the first of all far ends where it is free."""
    owner = {}
    for tie, back in fan:
        far = far_end(web, tie, place)
        for hue in free_at(web, hueing, far, hues):
            if owner.setdefault(hue, far) != far:
                return (hue, owner[hue])
    # Not come to with enough hues: the ends would have more free hues in all than the fan has ties.
    return None


def freeing_row(web, hueing, fan, place, hues):
    """A row step behind which the same fan can be turned, where ahead of it it can't."""
    hue, first = shared_hue(web, hueing, fan, place, hues)
    own = free_at(web, hueing, place, hues)[0]
    # Where this row stays clear of the place, own is free at both it and first behind it. Where it comes to
    # the place, hue is free there behind it, and still at the other far end that shared it. The fan stands
    # either way: what hangs on hue in it is the place's tie of that hue alone, which hangs on first, and
    # both change alike.
    return ("row", first, own, hue)


def steps_to_hue(web, hueing, tie, hues):
    place = web[1][tie][0]
    fan = fan_of(web, hueing, tie, place, hues)
    steps = turned(web, hueing, fan, place, hues)
    if steps is not None:
        return steps
    row = freeing_row(web, hueing, fan, place, hues)
    return [row] + turned(web, done_step(web, hueing, row), fan, place, hues)


def check_enough(web, hues):
    if hues < enough(web):
        raise TooFew("fewer hues than most_at and thickest together")


def hued_in(web, hueing, tie, hues):
    check_tie(web, tie)
    check_enough(web, hues)
    if hueing[tie] is not None:
        return []
    return steps_to_hue(web, hueing, tie, hues)


def all_hued(web, hues):
    check_enough(web, hues)
    hueing = [None] * len(web[1])
    steps = []
    for tie in range(len(web[1])):
        added = steps_to_hue(web, hueing, tie, hues)
        hueing = played(web, hueing, added)[-1]
        steps.extend(added)
    return (hueing, steps)
