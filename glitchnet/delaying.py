"""Readings of a net, and delays at them."""

from glitchnet.kinds import is_whole


def is_delays(net, thing):
    """Whether it has, for each gate of a net, a delay for each of its ins."""
    gates = net[1]
    if not isinstance(thing, tuple) or len(thing) != len(gates):
        return False
    return all(is_gate_delays(len(ins), part) for (table, ins), part in zip(gates, thing))


def is_gate_delays(many, thing):
    """Whether it is a tuple of so many delays."""
    if not isinstance(thing, tuple) or len(thing) != many:
        return False
    return all(is_whole(delay) and delay >= 0 for delay in thing)


def no_delays(net):
    """Delays of a net, all 0."""
    return tuple((0,) * len(ins) for table, ins in net[1])


def readings_of(net):
    """All readings (gate, place) of a net, rising."""
    return tuple((gate, place) for gate, (table, ins) in enumerate(net[1]) for place in range(len(ins)))
