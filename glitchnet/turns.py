"""Turns of forms by nine rules, and papers of turns."""

from glitchnet.errors import NoTurn
from glitchnet.forms import form_at, inner_of, is_form, parts_in
from glitchnet.nets import MOST_INPUTS

MOST_TURNED = 40
OTHER = {"and": "or", "or": "and"}
# What plays no part in an and, in an or; what shuts it.
FREE = {"and": ("one",), "or": ("nought",)}
SHUT = {"and": ("nought",), "or": ("one",)}


def pair_in(head, form):
    """The parts of an and, or of an or, as told, of two parts; None of other forms."""
    return form[1] if form[0] == head and len(form[1]) == 2 else None


def is_flat(old, new):
    """Whether an and among the parts of an and gives way to its parts; or the same of ors."""
    if old[0] not in OTHER or new[0] != old[0]:
        return False
    parts = old[1]
    for at, part in enumerate(parts):
        if part[0] == old[0] and parts[:at] + part[1] + parts[at + 1:] == new[1]:
            return True
    return False


def is_moved(old, new):
    """Whether two neighbours of the parts are exchanged."""
    if old[0] not in OTHER or new[0] != old[0]:
        return False
    parts = old[1]
    for at in range(len(parts) - 1):
        if parts[:at] + (parts[at + 1], parts[at]) + parts[at + 2:] == new[1]:
            return True
    return False


def is_twice(old, new):
    """Whether it is not not F, and F."""
    return old == ("not", ("not", new))


def is_morgan(old, new):
    """Whether it is the not of an and, and the or of the nots of its parts; or the same with or and and."""
    if old[0] != "not" or old[1][0] not in OTHER:
        return False
    head, parts = old[1]
    return new == (OTHER[head], tuple(("not", part) for part in parts))


def is_factored(old, new):
    """Whether it is the or of two ands that begin with the same F, and the and of F and the or of what else they
    have; or the same with or and and."""
    if old[0] not in OTHER or len(old[1]) != 2:
        return False
    head, (one, two) = old
    outer = OTHER[head]
    left = pair_in(outer, one)
    right = pair_in(outer, two)
    if left is None or right is None or left[0] != right[0]:
        return False
    return new == (outer, (left[0], (head, (left[1], right[1]))))


def is_absorbed(old, new):
    """Whether it is the or of F and an and that begins with F, and F; or the same with or and and."""
    if old[0] not in OTHER or len(old[1]) != 2:
        return False
    head, (one, two) = old
    inner = pair_in(OTHER[head], two)
    return inner is not None and inner[0] == one and new == one


def is_single(old, new):
    """Whether it is the and of F and F, and F; or the same of an or."""
    return old[0] in OTHER and old[1] == (new, new)


def is_shut(old, new):
    """Whether it is the and of F and not F, and nought; or the or of them, and one."""
    if old[0] not in OTHER or len(old[1]) != 2:
        return False
    head, (one, two) = old
    return two == ("not", one) and new == SHUT[head]


def is_bound(old, new):
    """Whether it is the and of one and F, and F; of nought and F, and nought; or the same of an or."""
    if old[0] not in OTHER or len(old[1]) != 2:
        return False
    head, (one, two) = old
    return one == FREE[head] and new == two or one == SHUT[head] and new == one


BOTH_WAYS = {"flat": is_flat, "moved": is_moved, "twice": is_twice, "morgan": is_morgan}
ONE_WAY = {
    "factored": is_factored, "absorbed": is_absorbed, "single": is_single, "shut": is_shut, "bound": is_bound}


def turns_to(rule, old, new):
    """Whether a rule turns a form to another one."""
    if rule in ONE_WAY:
        one_way = ONE_WAY[rule]
        return one_way(old, new)
    if rule in BOTH_WAYS:
        either = BOTH_WAYS[rule]
        return either(old, new) or either(new, old)
    return False


def turned(form, turn):
    """The form behind a turn; NoTurn where there is no such one."""
    if not isinstance(turn, tuple) or len(turn) != 3:
        raise NoTurn("a turn is a place, a rule and a form")
    place, rule, new = turn
    old = form_at(form, place)
    if old is None:
        raise NoTurn("there is no such place in the form")
    if not isinstance(rule, str) or not is_form(MOST_INPUTS, new) or not turns_to(rule, old, new):
        raise NoTurn("the form at this place isn't turned so")
    whole = put_at(form, place, new)
    if parts_in(whole) > MOST_TURNED:
        raise NoTurn("the whole would have more than forty parts")
    return whole


def put_at(form, place, new):
    """A form with another one at a place in it."""
    if not place:
        return new
    inner = inner_of(form)
    at = place[0]
    part = put_at(inner[at], place[1:], new)
    if form[0] == "not":
        return "not", part
    return form[0], inner[:at] + (part,) + inner[at + 1:]


def turns_holds(one, other, thing):
    """Whether it is a paper of turns from one form to the other one."""
    if not isinstance(thing, tuple):
        return False
    form = one
    for turn in thing:
        try:
            form = turned(form, turn)
        except NoTurn:
            return False
    return form == other
