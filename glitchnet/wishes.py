"""Wishes: a table and changes, and which covers and products fit them."""

from glitchnet.covers import cover_word, is_cover, told_of
from glitchnet.kinds import is_signs, is_whole
from glitchnet.nets import choices_of, is_change, rows_of, table_worth
from glitchnet.nettexts import show_row
from glitchnet.products import cube_of, holds_all, holds_row, is_product, meet

MOST_WISHED = 4


def is_wish(thing):
    """Whether it is a wish, however many changes it has."""
    if not isinstance(thing, tuple) or len(thing) != 3:
        return False
    many, table, changes = thing
    if not is_whole(many) or not 1 <= many <= MOST_WISHED:
        return False
    if not is_signs(1 << many, table) or not isinstance(changes, tuple):
        return False
    return all(is_change(many, change) for change in changes)


def is_free(wish, cover):
    """Whether it is a cover that tells what the table tells and never goes to and fro at the changes."""
    many, table, changes = wish
    if not is_cover(cover) or cover[0] != many:
        return False
    # The same product more than once plays no part here.
    plain = (many, tuple(sorted(set(cover[1]))))
    if not all(told_of(plain, row) == int(sign) for row, sign in zip(rows_of(many), table)):
        return False
    return not any(cover_word(plain, change)[2] for change in changes)


def is_allowed(wish, product):
    """Whether it is a product that may stand in a free cover."""
    return is_product(wish[0], product) and why_not(wish, product) is None


def why_not(wish, product):
    """Why a product isn't allowed, a row of 0 or the number of a change; None where it is."""
    many, table, changes = wish
    for row, sign in zip(rows_of(many), table):
        if sign == "0" and holds_row(product, row):
            return "row", row
    for k, change in enumerate(changes):
        if not is_allowed_at(wish, product, change):
            return "change", k
    return None


def is_allowed_at(wish, product, change):
    """Whether a product that holds rows of 1 alone can't come and go at a change."""
    ones = ones_of(wish, change)
    if len(ones) == 2 or any(holds_row(product, row) for row in ones):
        return True
    return not meet(product, cube_of(change))


def ones_of(wish, rows):
    """Those of some rows of which a wish's table tells 1."""
    return [row for row in rows if table_worth(wish[1], row)]


def allowed_of(wish):
    """All products that are allowed, sorted."""
    products = ["".join(signs) for signs in choices_of(["-01"] * wish[0])]
    return tuple(product for product in products if is_allowed(wish, product))


def greatest_allowed(wish):
    """The products that are allowed and that no other one that is holds; sorted."""
    allowed = allowed_of(wish)
    return tuple(product for product in allowed
                 if not any(other != product and holds_all(other, product) for other in allowed))


def asked_of(wish):
    """The rows of 1, as products, and the cubes of the changes between two of them; sorted."""
    many, table, changes = wish
    rows = [show_row(row) for row in ones_of(wish, rows_of(many))]
    cubes = [cube_of(change) for change in changes if len(ones_of(wish, change)) == 2]
    return tuple(sorted(set(rows + cubes)))
