"""What whole numbers and lists are, of things of any kind."""


def is_number(thing):
    # Python counts True and False among the whole numbers; here they are none.
    return isinstance(thing, int) and not isinstance(thing, bool)


def is_listed(thing):
    return isinstance(thing, (list, tuple))


def is_pair(thing):
    return isinstance(thing, tuple) and len(thing) == 2
