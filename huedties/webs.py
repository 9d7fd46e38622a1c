"""Webs: places, and ties between two of them."""

from huedties.errors import NoPlace, NoTie
from huedties.plain import is_number, is_pair


def is_tie(many, thing):
    if not is_pair(thing):
        return False
    one, other = thing
    return is_number(one) and is_number(other) and 0 <= one < other < many


def is_web(thing):
    if not is_pair(thing):
        return False
    many, ties = thing
    if not is_number(many) or many < 0 or not isinstance(ties, tuple):
        return False
    return all([is_tie(many, tie) for tie in ties])


def has_place(web, place):
    return is_number(place) and 0 <= place < web[0]


def has_tie(web, tie):
    # Python would take a number below nought as one from the end.
    return is_number(tie) and 0 <= tie < len(web[1])


def check_place(web, place):
    if not has_place(web, place):
        raise NoPlace("the web has no such place")


def check_tie(web, tie):
    if not has_tie(web, tie):
        raise NoTie("the web has no such tie")


def ties_at(web, place):
    check_place(web, place)
    return [tie for tie, ends in enumerate(web[1]) if place in ends]


def count_at(web, place):
    return len(ties_at(web, place))


def most_at(web):
    counts = [0] * web[0]
    for one, other in web[1]:
        counts[one] += 1
        counts[other] += 1
    return max(counts, default=0)


def thickest(web):
    counts = {}
    for ends in web[1]:
        counts[ends] = counts.get(ends, 0) + 1
    return max(list(counts.values()), default=0)


def enough(web):
    """So many hues always do."""
    return most_at(web) + thickest(web)


def far_end(web, tie, place):
    check_tie(web, tie)
    one, other = web[1][tie]
    if place == one:
        return other
    if place == other:
        return one
    raise NoPlace("the tie has no such place")


def meets(web, one, other):
    return one != other and any([place in web[1][other] for place in web[1][one]])


def parts(web):
    # Each place bears the least place that is known to be in its part.
    least = list(range(web[0]))
    for one, other in web[1]:
        low = min(least[one], least[other])
        high = max(least[one], least[other])
        least = [low if first == high else first for first in least]
    return [[place for place in range(web[0]) if least[place] == first]
            for first in range(web[0]) if least[first] == first]


def only(web, ties):
    for tie in ties:
        check_tie(web, tie)
    return (web[0], tuple([web[1][tie] for tie in ties]))


def within(web, places):
    among = set(places)
    return [tie for tie, (one, other) in enumerate(web[1])
            if one in among and other in among]
