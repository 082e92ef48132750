"""Nets, rows and changes, and the worths of all wires without delays."""

from glitchnet.kinds import is_signs, is_whole, is_worth

MOST_INPUTS = 6
MOST_INS = 3


def is_net(thing):
    """Whether it is a net, however many gates it has."""
    if not isinstance(thing, tuple) or len(thing) != 2:
        return False
    many, gates = thing
    if not is_whole(many) or not 1 <= many <= MOST_INPUTS:
        return False
    if not isinstance(gates, tuple) or len(gates) == 0:
        return False
    return all(is_gate(many + number, gate) for number, gate in enumerate(gates))


def is_gate(wires, thing):
    """Whether it is a gate that reads none but the first so many wires."""
    if not isinstance(thing, tuple) or len(thing) != 2:
        return False
    table, ins = thing
    if not isinstance(ins, tuple) or not 1 <= len(ins) <= MOST_INS:
        return False
    return is_signs(1 << len(ins), table) and all(is_whole(wire) and 0 <= wire < wires for wire in ins)


def is_row(many, thing):
    """Whether it is a row of so many inputs."""
    return isinstance(thing, tuple) and len(thing) == many and all(is_worth(worth) for worth in thing)


def is_change(many, thing):
    """Whether it is a change of so many inputs."""
    return isinstance(thing, tuple) and len(thing) == 2 and all(is_row(many, row) for row in thing)


def choices_of(lists):
    """All tuples with one option of each list; rising where the lists are."""
    choices = [()]
    for options in lists:
        choices = [choice + (option,) for choice in choices for option in options]
    return tuple(choices)


def rows_of(many):
    """All rows of so many inputs, rising."""
    return choices_of([(0, 1)] * many)


def table_worth(table, worths):
    """A gate's worth, by its table and the worths of its ins."""
    place = 0
    for worth in worths:
        place = 2 * place + worth
    return int(table[place])


def settled(net, row):
    """The worths of all wires by a row, without delays."""
    worths = list(row)
    for table, ins in net[1]:
        worths.append(table_worth(table, [worths[wire] for wire in ins]))
    return tuple(worths)
