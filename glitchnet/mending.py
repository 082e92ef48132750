"""Covers mended: the fewest products that keep them from going to and fro."""

from glitchnet.covers import told_of
from glitchnet.leasts import fewest, reasons_of
from glitchnet.nets import rows_of
from glitchnet.products import unheld
from glitchnet.wishes import asked_of, greatest_allowed, is_allowed


def mended(cover, changes):
    """The fewest products that mend a cover for changes, with a paper; or why none do."""
    wish = wish_of(cover, changes)
    for k, product in enumerate(cover[1]):
        if not is_allowed(wish, product):
            return "never", k
    asked = asked_of(wish)
    products = greatest_allowed(wish)
    beyond = unheld(asked, products)
    if beyond:
        return "none", beyond[0], reasons_of(wish, beyond[0])
    found, paper = fewest(unheld(asked, cover[1]), products)
    return "more", found, paper


def wish_of(cover, changes):
    """The wish of what a cover tells, at some changes."""
    many = cover[0]
    return many, "".join(str(told_of(cover, row)) for row in rows_of(many)), changes


def neighbours(many):
    """All changes of one input, both ways about, rising."""
    changes = []
    for a in rows_of(many):
        for place in range(many):
            changes.append((a, a[:place] + (1 - a[place],) + a[place + 1:]))
    return tuple(sorted(changes))
