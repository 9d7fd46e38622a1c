"""Two sides of a web, or a ring that shows that it has none."""

from huedties.errors import NotTwoSides
from huedties.plain import is_listed, is_number, is_pair
from huedties.webs import far_end, has_tie, parts, ties_at


def give_sides(web, start, sides, back):
    """Gives the part of start its sides, and each place the tie that leads back towards start."""
    sides[start] = 0
    waiting = [start]
    while waiting:
        place = waiting.pop()
        for tie in ties_at(web, place):
            far = far_end(web, tie, place)
            if sides[far] is None:
                sides[far] = 1 - sides[place]
                back[far] = tie
                waiting.append(far)


def way_back(web, place, back):
    way = []
    while back[place] is not None:
        way.append(back[place])
        place = far_end(web, back[place], place)
    return way


def ring_through(web, tie, back):
    """The ring of a tie whose places have one side, and of their ways back."""
    one, other = web[1][tie]
    up = way_back(web, one, back)
    down = way_back(web, other, back)
    # Where both ways have come together they go on alike: that is no part of the ring.
    while up and down and up[-1] == down[-1]:
        up.pop()
        down.pop()
    return up + down[::-1] + [tie]


def two_sides(web):
    sides = [None] * web[0]
    back = [None] * web[0]
    for place in range(web[0]):
        if sides[place] is None:
            give_sides(web, place, sides, back)
    for tie, (one, other) in enumerate(web[1]):
        if sides[one] == sides[other]:
            return ("ring", ring_through(web, tie, back))
    return ("sides", sides)


def sides_of(web):
    """The sides of a web that has them; the refusal of all that asks for two sides."""
    word, row = two_sides(web)
    if word == "ring":
        raise NotTwoSides(row)
    return row


def are_sides(web, row):
    if len(row) != web[0] or not all([side in (0, 1) for side in row]):
        return False
    if any([row[one] == row[other] for one, other in web[1]]):
        return False
    return all([row[part[0]] == 0 for part in parts(web)])


def goes_round(web, ties, start):
    seen = set()
    place = start
    for tie in ties:
        if place in seen or place not in web[1][tie]:
            return False
        seen.add(place)
        place = far_end(web, tie, place)
    return place == start


def is_odd_ring(web, ties):
    if len(ties) < 3 or len(ties) % 2 == 0:
        return False
    if not all([has_tie(web, tie) for tie in ties]):
        return False
    # A ring may be gone about either way, so either place of its first tie may begin it.
    return any([goes_round(web, ties, start) for start in web[1][ties[0]]])


def shows_sides(web, thing):
    if not is_pair(thing) or not is_listed(thing[1]):
        return False
    word, row = thing
    if not all([is_number(item) for item in row]):
        return False
    if word == "sides":
        return are_sides(web, row)
    return word == "ring" and is_odd_ring(web, row)
