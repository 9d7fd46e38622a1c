"""How the rows of a desk's text are read, and its answers written."""

from huedties.errors import BadRow

MOST_COMES = 60

# For each word that a row begins with the bounds of the numbers that follow it.
BOUNDS = {
    "places": ((0, 30),),
    "come": ((0, 99), (0, 99)),
    "go": ((0, 99),),
    "settle": (),
    "undo": (),
    "ties": (),
    "limit": (),
    "most": (),
    "sides": (),
    "fewest": (),
    "pairs": (),
    "robin": ((0, 12),),
    "rounds": ((1, 99),),
    "even": ((0, 99),),
    "blocks": (),
    "cuts": (),
}


def number_of(word):
    """The number that a word writes, or None."""
    if not 1 <= len(word) <= 2 or not all([sign in "0123456789" for sign in word]):
        return None
    if len(word) == 2 and word[0] == "0":
        return None
    return int(word)


def fits(number, bounds):
    return number is not None and bounds[0] <= number <= bounds[1]


def read_row(row):
    """The pair (word, numbers) that a row writes, or None."""
    word, *others = row.split(" ")
    if word not in BOUNDS or len(others) != len(BOUNDS[word]):
        return None
    numbers = [number_of(other) for other in others]
    if not all([fits(number, bounds) for number, bounds in zip(numbers, BOUNDS[word])]):
        return None
    return (word, numbers)


def read(text):
    """The pairs (word, numbers) of all rows that aren't empty, the first one places; refused with BadRow."""
    told = []
    comes = 0
    rows = text.split("\n")
    for line, row in enumerate(rows):
        if row:
            pair = read_row(row)
            if pair is None or (pair[0] == "places") != (not told):
                raise BadRow(line)
            if pair[0] == "come":
                comes += 1
            if comes > MOST_COMES:
                raise BadRow(line)
            told.append(pair)
    if not told:
        raise BadRow(len(rows))
    return told


def spaced(things):
    """Things with blanks between."""
    return " ".join([str(thing) for thing in things]) if things else "-"


def parted(rows):
    """Lists of things, parted from one another."""
    return " ; ".join([spaced(row) for row in rows]) if rows else "-"
