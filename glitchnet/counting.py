"""How often wires change at the most, by counts of the changes that their ins have done."""

from glitchnet.errors import TooMany
from glitchnet.nets import choices_of, settled, table_worth

MOST_TURNS = 12


def gate_greatest(table, firsts, numbers):
    """How often a gate changes at the most, by its ins' first worths and numbers of changes."""
    return gate_part(table, firsts, numbers)[0]


def greatest(net, change):
    """The greatest numbers of all wires; TooMany at the first gate that comes to more than twelve."""
    return input_numbers(change) + tuple(part[0] for part in parts_of(net, change))


def input_numbers(change):
    """How often each input changes."""
    a, b = change
    return tuple(before ^ after for before, after in zip(a, b))


def parts_of(net, change):
    """For each gate its part of the least ledger; TooMany at the first gate that comes to more than twelve."""
    firsts = settled(net, change[0])
    numbers = list(input_numbers(change))
    parts = []
    for table, ins in net[1]:
        part = gate_part(table, at_wires(firsts, ins), at_wires(numbers, ins))
        if part[0] > MOST_TURNS:
            raise TooMany("a wire may change more than twelve times")
        parts.append(part)
        numbers.append(part[0])
    return tuple(parts)


def at_wires(row, wires):
    """What stands in a row at the places of some wires."""
    return tuple(row[wire] for wire in wires)


def gate_part(table, firsts, numbers):
    """For each tuple of counts, rising, how often the gate can still change from there on."""
    steps = steps_from(table, firsts, numbers)
    part = [0] * len(steps)
    for at in range(len(steps) - 1, -1, -1):
        part[at] = max([part[behind] + turned for place, behind, turned in steps[at]], default=0)
    return tuple(part)


def steps_from(table, firsts, numbers):
    """For each tuple of counts, rising, its steps (place, behind, turned): the in that changes once more, the number
    of the counts behind it, and 1 where the gate's worth changes by it, else 0."""
    every = choices_of([list(range(number + 1)) for number in numbers])
    worths = [worth_by(table, firsts, counts) for counts in every]
    strides = strides_of(numbers)
    steps = []
    for at, counts in enumerate(every):
        steps.append([
            (place, at + strides[place], worths[at] ^ worths[at + strides[place]])
            for place, count in enumerate(counts) if count < numbers[place]])
    return steps


def worth_by(table, firsts, counts):
    """A gate's worth where its ins have changed so often."""
    return table_worth(table, [first ^ (count & 1) for first, count in zip(firsts, counts)])


def strides_of(numbers):
    """For each place how far behind, among all tuples of counts, the one stands with one more there."""
    return [many_counts(numbers[place + 1:]) for place in range(len(numbers))]


def many_counts(numbers):
    """How many tuples of counts there are, each from 0 to its number."""
    many = 1
    for number in numbers:
        many *= number + 1
    return many
