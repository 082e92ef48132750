"""Two forms with the same worths, held side by side."""

from glitchnet.errors import NoForms
from glitchnet.formnets import form_shown, form_word
from glitchnet.forms import worth_of
from glitchnet.nets import rows_of


def side_by_side(many, one, other):
    """The first change at which the other form goes to and fro and the one doesn't, with delays that show it, or None;
    NoForms where a row tells them apart."""
    rows = rows_of(many)
    if any(worth_of(one, row) != worth_of(other, row) for row in rows):
        raise NoForms("a row tells the forms apart")
    for a in rows:
        for b in rows:
            change = (a, b)
            if form_word(other, change)[2] and not form_word(one, change)[2]:
                return change, form_shown(other, change)
    return None
