"""Forms: their worths, their parts, and the places in them."""

from glitchnet.kinds import is_whole

LEAST_PARTS = 2
MOST_PARTS = 4
STILL = {"one": 1, "nought": 0}


def is_form(many, thing):
    """Whether it is a form of so many inputs, however great it is."""
    left = [thing]
    while left:
        part = left.pop()
        if not is_outside(many, part):
            return False
        left.extend(inner_of(part))
    return True


def is_outside(many, thing):
    """Whether it is a form as far as it is seen without looking into its parts."""
    if not isinstance(thing, tuple) or not 1 <= len(thing) <= 2:
        return False
    if len(thing) == 1:
        return isinstance(thing[0], str) and thing[0] in STILL
    head, rest = thing
    if head == "in":
        return is_whole(rest) and 0 <= rest < many
    if head in ("and", "or"):
        return isinstance(rest, tuple) and LEAST_PARTS <= len(rest) <= MOST_PARTS
    return head == "not"


def inner_of(form):
    """The parts right within a form."""
    if form[0] == "not":
        return (form[1],)
    return form[1] if form[0] in ("and", "or") else ()


def worth_of(form, row):
    """The worth of a form by a row."""
    head = form[0]
    if head == "in":
        return row[form[1]]
    still = still_worth(form)
    if still is not None:
        return still
    worths = [worth_of(part, row) for part in inner_of(form)]
    if head == "not":
        return 1 - worths[0]
    return min(worths) if head == "and" else max(worths)


def still_worth(form):
    """The worth of one and of nought; None of other forms."""
    return STILL.get(form[0])


def parts_in(form):
    """How many parts a form has in all, itself counted."""
    return sum(len(level) for level in levels_of(form))


def depth_of(form):
    """How many forms stand within one another, itself counted."""
    return len(levels_of(form))


def levels_of(form):
    """Lists of all parts of a form: itself, the parts right within it, those right within these, and so on."""
    levels = []
    level = [form]
    while level:
        levels.append(level)
        level = [part for above in level for part in inner_of(above)]
    return levels


def form_at(form, place):
    """The form at a place in a form, or None where there is no such place."""
    if not isinstance(place, tuple):
        return None
    part = form
    for number in place:
        inner = inner_of(part)
        if not is_whole(number) or not 0 <= number < len(inner):
            return None
        part = inner[number]
    return part
