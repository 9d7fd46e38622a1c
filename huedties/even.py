"""Hues used evenly."""

from huedties.fans import all_hued
from huedties.hueings import classes, hues_at
from huedties.rows import row_from
from huedties.story import done_step


def sizes(hueing, hues):
    return [len(ties) for ties in classes(hueing, hues)]


def row_with_more(web, hueing, often, seldom):
    """A row step of both hues that has one tie more of the hue that is had more often."""
    for place in range(web[0]):
        if seldom not in hues_at(web, hueing, place):
            if len(row_from(web, hueing, place, often, seldom)) % 2 == 1:
                return ("row", place, often, seldom)
    # Not come to: all other rows have as many ties of the one hue as of the other, or fewer.
    return None


def evening_step(web, hueing, hues):
    counts = sizes(hueing, hues)
    if not counts or max(counts) - min(counts) < 2:
        return None
    return row_with_more(web, hueing, counts.index(max(counts)), counts.index(min(counts)))


def evened(web, hueing, hues):
    now = list(hueing)
    steps = []
    step = evening_step(web, now, hues)
    while step is not None:
        now = done_step(web, now, step)
        steps.append(step)
        step = evening_step(web, now, hues)
    return (now, steps)


def spread(web, hues):
    return evened(web, all_hued(web, hues)[0], hues)[0]
