"""The words of a net at a change, and formulas."""

from glitchnet.nets import is_net
from glitchnet.pairing import gate_word


def words_of(net, change):
    """The words of all wires at a change."""
    a, b = change
    words = [(before, after, False) for before, after in zip(a, b)]
    for table, ins in net[1]:
        words.append(gate_word(table, tuple(words[wire] for wire in ins)))
    return tuple(words)


def is_formula(net):
    """Whether it is a net each of whose gates is read at one place at most."""
    if not is_net(net):
        return False
    many, gates = net
    read = set()
    for table, ins in gates:
        for wire in ins:
            if wire in read:
                return False
            if wire >= many:
                read.add(wire)
    return True
