"""Steps: small changes of a hueing, each let by or not."""

from huedties.errors import NoPlace, NoRow, NoStep
from huedties.hueings import is_hue, is_hueing
from huedties.rows import exchanged, row_from
from huedties.webs import has_tie, meets


def tie_has_hue(web, hueing, tie):
    return has_tie(web, tie) and hueing[tie] is not None


def tie_lacks_hue(web, hueing, tie):
    return has_tie(web, tie) and hueing[tie] is None


def with_hues(web, hueing, given):
    """The hueing with the hues of some ties given anew, or None where that is no hueing."""
    changed = list(hueing)
    for tie, hue in given:
        changed[tie] = hue
    return changed if is_hueing(web, changed) else None


def after_hue(web, hueing, tie, hue):
    # A None as hue would leave a hueing, but no tie with a hue.
    if not tie_lacks_hue(web, hueing, tie) or not is_hue(hue):
        return None
    return with_hues(web, hueing, [(tie, hue)])


def after_drop(web, hueing, tie):
    if not tie_has_hue(web, hueing, tie):
        return None
    return with_hues(web, hueing, [(tie, None)])


def after_move(web, hueing, tie, other):
    if not tie_has_hue(web, hueing, tie) or not tie_lacks_hue(web, hueing, other):
        return None
    if not meets(web, tie, other):
        return None
    return with_hues(web, hueing, [(tie, None), (other, hueing[tie])])


def after_row(web, hueing, place, one, other):
    if not is_hue(one) or not is_hue(other):
        return None
    try:
        return exchanged(web, hueing, row_from(web, hueing, place, one, other), one, other)
    except (NoPlace, NoRow):
        return None


def after_step(web, hueing, step):
    """The hueing behind a step, or None where it isn't let by."""
    if not isinstance(step, tuple) or not step:
        return None
    word = step[0]
    if word == "hue" and len(step) == 3:
        return after_hue(web, hueing, step[1], step[2])
    if word == "drop" and len(step) == 2:
        return after_drop(web, hueing, step[1])
    if word == "move" and len(step) == 3:
        return after_move(web, hueing, step[1], step[2])
    if word == "row" and len(step) == 4:
        return after_row(web, hueing, step[1], step[2], step[3])
    return None


def done_step(web, hueing, step):
    changed = after_step(web, hueing, step)
    if changed is None:
        raise NoStep(0)
    return changed


def played(web, hueing, steps):
    told = []
    now = hueing
    for at, step in enumerate(steps):
        now = after_step(web, now, step)
        if now is None:
            raise NoStep(at)
        told.append(now)
    return told
