"""The small checker: whether a finding, whoever wrote it, is true."""

from glitchnet.counting import input_numbers
from glitchnet.delaying import is_delays
from glitchnet.errors import TooMany
from glitchnet.forms import is_form
from glitchnet.kinds import is_whole
from glitchnet.leastchecks import reasons_holds, shown_by
from glitchnet.ledgers import ledger_holds
from glitchnet.nets import MOST_INPUTS, is_change, is_net
from glitchnet.running import waves_of
from glitchnet.turns import turns_holds
from glitchnet.wishes import asked_of, is_free, is_wish


def is_question(net, change, wire, many):
    """Whether these are a net, a change of it, a wire of it and a whole number."""
    if not is_net(net) or not is_change(net[0], change):
        return False
    return is_whole(wire) and 0 <= wire < net[0] + len(net[1]) and is_whole(many)


def is_shown(finding):
    """Whether by the delays the wire changes just so many times."""
    sort, net, change, delays, wire, many = finding
    if not is_question(net, change, wire, many) or not is_delays(net, delays):
        return False
    try:
        waves = waves_of(net, delays, change)
    except TooMany:
        return False
    return len(waves[wire][1]) == many


def is_let(finding):
    """Whether the ledger holds, and by it the wire has at most so many changes."""
    sort, net, change, wire, many, ledger = finding
    if not is_question(net, change, wire, many) or not ledger_holds(net, change, ledger):
        return False
    numbers = input_numbers(change) + tuple(part[0] for part in ledger)
    return numbers[wire] <= many


def is_freed(finding):
    """Whether the cover is free by the wish."""
    sort, wish, cover = finding
    return is_wish(wish) and is_free(wish, cover)


def is_least(finding):
    """Whether the cover is free by the wish, and the paper shows that no fewer products do."""
    sort, wish, cover, paper = finding
    return is_wish(wish) and is_free(wish, cover) and shown_by(wish, asked_of(wish), paper) == len(cover[1])


def is_none(finding):
    """Whether no allowed product holds the asked one, for these reasons."""
    sort, wish, asked, reasons = finding
    return is_wish(wish) and asked in asked_of(wish) and reasons_holds(wish, asked, reasons)


def is_turned(finding):
    """Whether the paper leads from one form to the other one."""
    sort, one, other, paper = finding
    return is_form(MOST_INPUTS, one) and is_form(MOST_INPUTS, other) and turns_holds(one, other, paper)


# By the sort of a finding how long it is, and who tells whether it holds.
LENGTHS = {"shows": 6, "lets": 6, "free": 3, "least": 4, "none": 4, "turned": 4}
CHECKS = {"shows": is_shown, "lets": is_let, "free": is_freed, "least": is_least, "none": is_none, "turned": is_turned}


def finding_holds(thing):
    """Whether it is a finding that holds."""
    if not isinstance(thing, tuple) or len(thing) == 0 or not isinstance(thing[0], str):
        return False
    sort = thing[0]
    if sort not in CHECKS or len(thing) != LENGTHS[sort]:
        return False
    check = CHECKS[sort]
    return check(thing)
