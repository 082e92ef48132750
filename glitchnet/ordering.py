"""Delays that show a told number of changes, of a formula."""

from glitchnet.counting import at_wires, gate_part, greatest, steps_from
from glitchnet.delaying import no_delays
from glitchnet.errors import NotFormula
from glitchnet.nets import settled
from glitchnet.networds import is_formula


def delays_for(net, change, wire, many):
    """Delays by which a wire changes just so many times, or None; NotFormula, then TooMany as greatest."""
    if not is_formula(net):
        raise NotFormula("a gate is read at more than one place")
    numbers = greatest(net, change)
    # What comes together at time 0 isn't seen, where it is even.
    unseen = numbers[wire] - many
    if many < 0 or unseen < 0 or unseen & 1:
        return None
    delays = [list(part) for part in no_delays(net)]
    for number, batch in enumerate(batches_of(net, change, numbers, wire)):
        for gate, place in batch:
            delays[gate][place] = max(0, number + 1 - unseen)
    return tuple(tuple(part) for part in delays)


def batches_of(net, change, numbers, wire):
    """The readings of changing inputs below a wire, in batches: where they come one behind the other, the wire
    changes by each batch, as often as it ever does, but not by the last one."""
    many, gates = net
    firsts = settled(net, change[0])
    # Inputs stand here only so that wires keep their numbers.
    batches = [[[]] for first in change[0]]
    for gate in range(wire - many + 1):
        table, ins = gates[gate]
        heard = []
        for place, read in enumerate(ins):
            heard.append(input_batches(gate, place, numbers[read]) if read < many else batches[read])
        order = order_of(table, at_wires(firsts, ins), at_wires(numbers, ins))
        batches.append(merged(order, heard))
    return batches[wire]


def input_batches(gate, place, number):
    """The batches of a reading of an input that changes so often."""
    return [[(gate, place)], []] if number else [[]]


def order_of(table, firsts, numbers):
    """An order in which a gate's ins change so that it changes as often as it can: a list of (place, turned)."""
    steps = steps_from(table, firsts, numbers)
    part = gate_part(table, firsts, numbers)
    order = []
    at = 0
    while steps[at]:
        place, at, turned = best_step(steps[at], part)
        order.append((place, turned))
    return order


def best_step(steps, part):
    """A step behind which the most changes are to come, its own counted."""
    return max(steps, key=lambda step: part[step[1]] + step[2])


def merged(order, heard):
    """The batches of a gate, by the order in which its ins change and the batches of these."""
    done = [0 for batches in heard]
    made = []
    batch = []
    for place, turned in order:
        batch = batch + heard[place][done[place]]
        done[place] += 1
        if turned:
            made.append(batch)
            batch = []
    for batches in heard:
        batch = batch + batches[-1]
    made.append(batch)
    return made
