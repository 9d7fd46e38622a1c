"""What whole numbers, lists and pairs are, of things of any kind."""


def is_number(thing):
    # Python counts True and False among the whole numbers; here they are none.
    return isinstance(thing, int) and not isinstance(thing, bool)


def is_listed(thing):
    return isinstance(thing, (list, tuple))


def is_pair(thing):
    return isinstance(thing, tuple) and len(thing) == 2


def is_rising(thing):
    """Whether it is a list of numbers that rises."""
    if not is_listed(thing) or not all([is_number(item) for item in thing]):
        return False
    return all([thing[at] < thing[at + 1] for at in range(len(thing) - 1)])
