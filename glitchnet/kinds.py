"""The kinds that all things are made of."""


def is_whole(thing):
    """Whether it is an int that is no truth."""
    return isinstance(thing, int) and not isinstance(thing, bool)


def is_worth(thing):
    """Whether it is the whole number 0 or 1."""
    return is_whole(thing) and 0 <= thing <= 1


def is_signs(many, thing):
    """Whether it is a text of as many signs, each 0 or 1."""
    return isinstance(thing, str) and len(thing) == many and all(sign in "01" for sign in thing)
