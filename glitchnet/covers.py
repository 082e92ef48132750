"""Covers: what they tell of rows, and what they may show at changes."""

from glitchnet.kinds import is_whole
from glitchnet.nets import MOST_INPUTS, rows_of
from glitchnet.products import cube_of, holds_all, holds_row, is_product, meet


def is_cover(thing):
    """Whether it is a cover, however many products it has."""
    if not isinstance(thing, tuple) or len(thing) != 2:
        return False
    many, products = thing
    if not is_whole(many) or not 1 <= many <= MOST_INPUTS:
        return False
    return isinstance(products, tuple) and all(is_product(many, product) for product in products)


def told_of(cover, row):
    """What a cover tells of a row."""
    return 1 if any(holds_row(product, row) for product in cover[1]) else 0


def cover_word(cover, change):
    """The word of a cover's formula at a change."""
    a, b = change
    return told_of(cover, a), told_of(cover, b), judged(cover, change)[0] in ("gap", "meets")


def cover_greatest(cover, change):
    """How often a cover's formula changes at the most, however often that is."""
    a, b = change
    products = cover[1]
    if first_holding(products, change) is not None:
        return 0
    # Those that hold a can all fall first, those that hold b rise last,
    # and between them each of the others comes and goes alone.
    flashing = sum(1 for product in products if flashes(product, change))
    return told_of(cover, a) + 2 * flashing + told_of(cover, b)


def judged(cover, change):
    """How a cover is judged at a change: held, gap, meets or clear."""
    a, b = change
    products = cover[1]
    if told_of(cover, a) and told_of(cover, b):
        k = first_holding(products, change)
        return ("gap",) if k is None else ("held", k)
    for k, product in enumerate(products):
        if flashes(product, change):
            return "meets", k
    return ("clear",)


def first_holding(products, change):
    """The number of the first product that holds both rows of a change, or None."""
    cube = cube_of(change)
    for k, product in enumerate(products):
        if holds_all(product, cube):
            return k
    return None


def flashes(product, change):
    """Whether a product may come and go on the way, while it holds neither row."""
    a, b = change
    return meet(product, cube_of(change)) and not holds_row(product, a) and not holds_row(product, b)


def open_pairs(cover):
    """All pairs of rows of 1, unlike at one place, which no product holds both; rising."""
    many = cover[0]
    pairs = []
    for a in rows_of(many):
        for place in range(many - 1, -1, -1):
            b = a[:place] + (1,) + a[place + 1:]
            if a != b and judged(cover, (a, b)) == ("gap",):
                pairs.append((a, b))
    return tuple(pairs)
