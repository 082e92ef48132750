"""Products: which rows they hold, and which of them meet."""

from glitchnet.nets import choices_of
from glitchnet.nettexts import show_row


def is_product(many, thing):
    """Whether it is a product of so many inputs."""
    return isinstance(thing, str) and len(thing) == many and all(sign in "01-" for sign in thing)


def holds_row(product, row):
    """Whether a product holds a row."""
    return holds_all(product, show_row(row))


def holds_all(product, other):
    """Whether a product holds all rows of another one."""
    return all(sign in ("-", held) for sign, held in zip(product, other))


def meet(product, other):
    """Whether two products hold a row in common."""
    return all("-" in (one, two) or one == two for one, two in zip(product, other))


def cube_of(change):
    """The product that holds all rows on the ways from one row of a change to the other one."""
    a, b = change
    return "".join(str(before) if before == after else "-" for before, after in zip(a, b))


def products_holding(product):
    """All products that hold a product, sorted."""
    choices = choices_of([("-",) if sign == "-" else ("-", sign) for sign in product])
    return tuple("".join(signs) for signs in choices)


def unheld(some, products):
    """Those of some products that none of the others holds, in their order."""
    return tuple(one for one in some if not any(holds_all(product, one) for product in products))
