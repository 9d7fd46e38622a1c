"""A desk: deeds of a Tied and asks of it, written as the rows of a text."""

from huedties.blocks import blocks, cuts
from huedties.errors import NoPlace, NoTie, NotTwoSides, TooFew
from huedties.even import sizes, spread
from huedties.gluing import by_blocks, places_of
from huedties.pairings import pairing
from huedties.rounds import plan, robin
from huedties.sides import two_sides
from huedties.tied import Tied
from huedties.webs import most_at
from huedties.words import parted, read, spaced


def come_told(tied, numbers):
    try:
        number = tied.come(numbers[0], numbers[1])[0]
    except NoPlace:
        return "refused"
    return f"tie {number}"


def go_told(tied, numbers):
    try:
        tied.go(numbers[0])
    except NoTie:
        return "refused"
    return "gone"


def settle_told(tied, numbers):
    tied.settle()
    return "settled"


def undo_told(tied, numbers):
    return "undone" if tied.undo() else "none"


def ties_told(tied, numbers):
    return parted(tied.ties())


def limit_told(tied, numbers):
    return str(tied.limit())


def most_told(tied, numbers):
    return str(most_at(tied.web_now()[0]))


def sides_told(tied, numbers):
    word, row = two_sides(tied.web_now()[0])
    return spaced(row) if word == "sides" else "ring"


def is_beyond(web, block):
    return len(block) > 16 or len(places_of(web, block)) > 12


def fewest_told(tied, numbers):
    web = tied.web_now()[0]
    if any([is_beyond(web, block) for block in blocks(web)]):
        return "beyond"
    return str(by_blocks(web)[0])


def pairs_told(tied, numbers):
    try:
        return str(len(pairing(tied.web_now()[0])[0]))
    except NotTwoSides:
        return "ring"


def robin_told(tied, numbers):
    return parted([[f"{one}-{other}" for one, other in row] for row in robin(numbers[0])])


def by_numbers(rows, names):
    """Lists of a web's ties, by the numbers that they have."""
    return parted([[names[tie] for tie in row] for row in rows])


def rounds_told(tied, numbers):
    web, names = tied.web_now()
    return by_numbers(plan(web, numbers[0]), names)


def even_told(tied, numbers):
    hues = numbers[0]
    try:
        hueing = spread(tied.web_now()[0], hues)
    except TooFew:
        return "few"
    return spaced(sorted(sizes(hueing, hues), reverse=True))


def blocks_told(tied, numbers):
    web, names = tied.web_now()
    return by_numbers(blocks(web), names)


def cuts_told(tied, numbers):
    return spaced(cuts(tied.web_now()[0]))


TELLERS = {
    "come": come_told,
    "go": go_told,
    "settle": settle_told,
    "undo": undo_told,
    "ties": ties_told,
    "limit": limit_told,
    "most": most_told,
    "sides": sides_told,
    "fewest": fewest_told,
    "pairs": pairs_told,
    "robin": robin_told,
    "rounds": rounds_told,
    "even": even_told,
    "blocks": blocks_told,
    "cuts": cuts_told,
}


def run(text):
    first, *rows = read(text)
    tied = Tied(first[1][0])
    told = []
    for word, numbers in rows:
        teller = TELLERS[word]
        told.append(teller(tied, numbers))
    return told
