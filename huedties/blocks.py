"""Webs joined at places: where they are joined, and the blocks between."""

from huedties.webs import far_end, only, parts, ties_at


def without(web, place):
    """The web without the ties of a place."""
    around = ties_at(web, place)
    return only(web, [tie for tie in range(len(web[1])) if tie not in around])


def cuts(web):
    # Without its ties a place is a part by itself; one part more than that, and the rest has come apart.
    count = len(parts(web))
    return [place for place in range(web[0]) if len(parts(without(web, place))) > count + 1]


def couples_by_rings(web, place):
    """Couples of a place's ties that lie on one ring, as many as it takes to join all that do."""
    couples = []
    for part in parts(without(web, place)):
        ties = [tie for tie in ties_at(web, place) if far_end(web, tie, place) in part]
        couples.extend([(ties[0], tie) for tie in ties[1:]])
    return couples


def blocks(web):
    # Going round a ring each tie meets the next, so that couples of ties that meet do.
    couples = [couple for place in range(web[0]) for couple in couples_by_rings(web, place)]
    return parts((len(web[1]), tuple(couples)))
