"""Rounds of meetings."""

from huedties.even import evened, spread
from huedties.halving import couples_at
from huedties.hueings import classes
from huedties.plain import is_listed, is_rising
from huedties.sides import sides_of, two_sides
from huedties.twosided import by_rows
from huedties.webs import enough, has_tie, most_at


def plan(web, room):
    # Even hues, so that where all ties have room in the rounds each round's do.
    least = (len(web[1]) + room - 1) // room
    if two_sides(web)[0] == "sides":
        hues = max(most_at(web), least)
        hueing = evened(web, by_rows(web)[0], hues)[0]
    else:
        hues = max(enough(web), least)
        hueing = spread(web, hues)
    return [ties for ties in classes(hueing, hues) if ties]


def is_round(web, room, thing):
    if not is_rising(thing) or not 0 < len(thing) <= room:
        return False
    if not all([has_tie(web, tie) for tie in thing]):
        return False
    ends = [place for tie in thing for place in web[1][tie]]
    return len(set(ends)) == len(ends)


def shows_plan(web, room, thing):
    if not is_listed(thing) or not all([is_round(web, room, row) for row in thing]):
        return False
    return sorted([tie for row in thing for tie in row]) == list(range(len(web[1])))


def pairs_of_turn(many, ring, turn):
    """The pairs whose numbers, counted round ring, come to turn."""
    pairs = []
    for one in range(ring):
        other = (turn - one) % ring
        # Who would meet itself meets the person beyond the ring, or nobody where there is none.
        if other == one:
            other = ring
        if one < other < many:
            pairs.append((one, other))
    return pairs


def robin(many):
    if many < 2:
        return []
    # Round an odd number each person would meet itself just once.
    ring = many if many % 2 == 1 else many - 1
    return [pairs_of_turn(many, ring, turn) for turn in range(ring)]


def half_of(web, tie, place):
    """A number of its own for each end of each tie."""
    return 2 * tie if place == web[1][tie][0] else 2 * tie + 1


def hosts(web):
    # A web whose places are the ends of the ties: one of a tie's two ends is the host, and one of a couple's two at
    # a place. Its rings go by ties and couples by turns, so it is of two sides.
    links = [(2 * tie, 2 * tie + 1) for tie in range(len(web[1]))]
    for place in range(web[0]):
        links.extend([(half_of(web, one, place), half_of(web, other, place)) for one, other in couples_at(web, place)])
    sides = sides_of((2 * len(web[1]), tuple(links)))
    return [ends[sides[2 * tie]] for tie, ends in enumerate(web[1])]
