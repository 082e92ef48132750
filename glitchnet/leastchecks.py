"""Small checkers: of papers that no fewer products do, and of reasons why there is no free cover."""

from glitchnet.kinds import is_whole
from glitchnet.nets import is_row, table_worth
from glitchnet.products import holds_all, holds_row, products_holding, unheld
from glitchnet.wishes import greatest_allowed, is_allowed_at


def shown_by(wish, given, thing):
    """The number that a paper shows for the given asked products; None where it is no paper for these."""
    return shown_for(greatest_allowed(wish), given, thing)


def shown_for(products, given, thing):
    """What shown_by tells, by the greatest allowed products."""
    if not isinstance(thing, tuple):
        return None
    if len(thing) == 2 and thing[0] == "apart":
        return shown_apart(products, given, thing[1])
    if len(thing) == 3 and thing[0] == "case":
        return shown_case(products, given, thing[1], thing[2])
    return None


def shown_apart(products, given, some):
    """How many some given ones are; None where they aren't sorted, each once, or one product holds two of them."""
    if not isinstance(some, tuple) or not all(one in given for one in some):
        return None
    if not all(early < late for early, late in zip(some, some[1:])):
        return None
    # Each allowed product is held by a greatest one: so these alone are looked at.
    if any(sum(1 for one in some if holds_all(product, one)) > 1 for product in products):
        return None
    return len(some)


def shown_case(products, given, one, papers):
    """One more than the least that the papers show; None where they aren't those for the products that hold one."""
    if one not in given or not isinstance(papers, tuple):
        return None
    holding = [product for product in products if holds_all(product, one)]
    if not holding or len(papers) != len(holding):
        return None
    numbers = [shown_for(products, unheld(given, (product,)), paper) for product, paper in zip(holding, papers)]
    return None if None in numbers else 1 + min(numbers)


def reasons_holds(wish, asked, thing):
    """Whether it tells, of each product that holds the asked one, why it isn't allowed."""
    products = products_holding(asked)
    if not isinstance(thing, tuple) or len(thing) != len(products):
        return False
    return all(is_reason(wish, product, part) for product, part in zip(products, thing))


def is_reason(wish, product, thing):
    """Whether it is this product with a reason why it isn't allowed."""
    if not isinstance(thing, tuple) or len(thing) != 2 or thing[0] != product:
        return False
    why = thing[1]
    if not isinstance(why, tuple) or len(why) != 2:
        return False
    many, table, changes = wish
    kind, what = why
    if kind == "row":
        return is_row(many, what) and holds_row(product, what) and table_worth(table, what) == 0
    if kind == "change":
        return is_whole(what) and 0 <= what < len(changes) and not is_allowed_at(wish, product, changes[what])
    return False
