"""Hues for webs joined at places, block by block."""

from huedties.blocks import blocks
from huedties.fewcheck import shows_fewer
from huedties.fewest import fewest, place_of_most
from huedties.hueings import is_whole
from huedties.plain import is_number
from huedties.webs import count_at, has_place, most_at, only, ties_at


def places_of(web, ties):
    return sorted({place for tie in ties for place in web[1][tie]})


def glue_order(web, rows):
    """The numbers of the blocks, and of each the place where those ahead of it touch it, None where none does.

    They touch it at one place at most: through a second one a ring would lead, and it would be one block with them.
    """
    told = []
    seen = set()
    left = list(range(len(rows)))
    while left:
        touching = [(at, place) for at in left for place in places_of(web, rows[at]) if place in seen]
        at, joint = touching[0] if touching else (left[0], None)
        told.append((at, joint))
        left.remove(at)
        for place in places_of(web, rows[at]):
            seen.add(place)
    return told


def names_for(block, hueing, around, pool):
    """A dict of what the hues of a block are called: out of the pool, those of the ties around its joint first."""
    here = [hue for tie, hue in zip(block, hueing) if tie in around]
    others = sorted({hue for hue in hueing if hue not in here})
    return dict(zip(here + others, pool))


def glued(web, hueings):
    rows = blocks(web)
    hues = max([most_at(web)] + [hue + 1 for hueing in hueings for hue in hueing])
    told = [None] * len(web[1])
    for at, joint in glue_order(web, rows):
        around = [] if joint is None else ties_at(web, joint)
        taken = [told[tie] for tie in around if told[tie] is not None]
        # The free ones come first, and do for the ties around the joint: no place has more ties than there are hues.
        pool = [hue for hue in range(hues) if hue not in taken] + taken
        names = names_for(rows[at], hueings[at], around, pool)
        for tie, hue in zip(rows[at], hueings[at]):
            told[tie] = names[hue]
    return told


def by_blocks(web):
    papers = [fewest(only(web, block)) for block in blocks(web)]
    hueing = glued(web, [whole for number, whole, paper in papers])
    number = most_at(web)
    paper = ("place", place_of_most(web)) if number > 0 else None
    for at, (more, whole, why) in enumerate(papers):
        if more > number:
            number = more
            paper = ("block", at, why)
    return (number, hueing, paper)


def is_block_paper(web, number, at, paper):
    rows = blocks(web)
    if not is_number(at) or not 0 <= at < len(rows):
        return False
    return shows_fewer(only(web, rows[at]), number - 1, paper)


def shows_needed(web, number, paper):
    """Whether anything is a paper that the web, which has ties, takes so many hues."""
    if not isinstance(paper, tuple):
        return False
    if len(paper) == 2 and paper[0] == "place":
        return has_place(web, paper[1]) and count_at(web, paper[1]) == number
    return len(paper) == 3 and paper[0] == "block" and is_block_paper(web, number, paper[1], paper[2])


def shows_blocks(web, thing):
    if not isinstance(thing, tuple) or len(thing) != 3:
        return False
    number, hueing, paper = thing
    if not is_number(number) or not is_whole(web, hueing) or any([hue >= number for hue in hueing]):
        return False
    return paper is None if number == 0 else shows_needed(web, number, paper)
