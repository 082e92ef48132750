"""Ledgers: papers on how often the gates of a net change at the most."""

from glitchnet.counting import at_wires, input_numbers, many_counts, parts_of, steps_from
from glitchnet.errors import TooMany
from glitchnet.kinds import is_whole
from glitchnet.nets import settled

MOST_NUMBERS = 4000


def ledger_of(net, change):
    """The least ledger that holds; TooMany as greatest, and where it has more than 4,000 numbers."""
    parts = parts_of(net, change)
    if sum(len(part) for part in parts) > MOST_NUMBERS:
        raise TooMany("a ledger of more than 4,000 numbers")
    return parts


def ledger_holds(net, change, thing):
    """Whether it is a ledger of a net at a change that holds, whoever wrote it."""
    gates = net[1]
    if not isinstance(thing, tuple) or len(thing) != len(gates):
        return False
    firsts = settled(net, change[0])
    numbers = list(input_numbers(change))
    for (table, ins), part in zip(gates, thing):
        if not part_holds(table, at_wires(firsts, ins), at_wires(numbers, ins), part):
            return False
        numbers.append(part[0])
    return True


def part_holds(table, firsts, numbers, thing):
    """Whether it is a gate's part of a ledger that holds, by its ins' first worths and numbers."""
    if not isinstance(thing, tuple) or len(thing) != many_counts(numbers):
        return False
    if not all(is_whole(number) and number >= 0 for number in thing):
        return False
    for number, steps in zip(thing, steps_from(table, firsts, numbers)):
        if not all(number >= thing[behind] + turned for place, behind, turned in steps):
            return False
    return True
