"""Readings with bounds: what some delays within them show."""

from glitchnet.kinds import is_whole
from glitchnet.nets import settled
from glitchnet.pairing import gate_pairs, pairs_read


def is_bounds(net, thing):
    """Whether it has, for each gate of a formula, a least and a most delay for each of its ins."""
    many, gates = net
    if not isinstance(thing, tuple) or len(thing) != len(gates):
        return False
    return all(is_gate_bounds(many, ins, part) for (table, ins), part in zip(gates, thing))


def is_gate_bounds(many, ins, thing):
    """Whether it has a least and a most delay for each in, both alike where the in is a gate."""
    if not isinstance(thing, tuple) or len(thing) != len(ins):
        return False
    return all(is_bound(pair) and (wire < many or pair[0] == pair[1]) for wire, pair in zip(ins, thing))


def is_bound(thing):
    """Whether it is a least and a most delay."""
    if not isinstance(thing, tuple) or len(thing) != 2:
        return False
    least, most = thing
    return is_whole(least) and is_whole(most) and 0 <= least <= most


def within(net, change, bounds, wire):
    """Delays within the bounds by which a wire goes to and fro, or that there are none."""
    first = settled(net, change[0])[wire]
    # Below 0 the wire is at first, and at last where it is without delays:
    # so it goes to and fro just where it has this pair at some two times.
    wanted = (1 - first, first)
    below = Below(net, change, bounds, wire)
    for times in below.two_times():
        options, pairs = below.seen_at(times)
        if wanted in pairs[wire]:
            return "shows", below.delays_by(times, pairs_read(net, options, wire, wanted))
    return ("never",)


class Below:
    """What stands below a wire of a formula at a change, seen at the wire's own times."""

    def __init__(self, net, change, bounds, wire):
        self.many, self.gates = net
        self.change = change
        self.bounds = bounds
        self.shifts = shifts_of(net, bounds, wire)
        # The same gates with the same options stand again at most of the times.
        self.known = {}

    def gates_below(self):
        """The numbers of the gates below the wire, itself too, rising."""
        return [gate for gate in range(len(self.gates)) if self.many + gate in self.shifts]

    def span(self, gate, place):
        """The first and the last time at which what an input does may come from a reading to the wire."""
        shift = self.shifts[self.many + gate]
        least, most = self.bounds[gate][place]
        return shift + least, shift + most

    def two_times(self):
        """Two times each, of which some show each pair that any two times show."""
        a, b = self.change
        marks = set()
        for gate in self.gates_below():
            for place, read in enumerate(self.gates[gate][1]):
                if read < self.many and a[read] != b[read]:
                    first, last = self.span(gate, place)
                    marks.add(first)
                    marks.add(last)
        # What an input may be is the same from each of these marks up to the next one.
        rising = sorted(marks)
        return [(early, late) for at, early in enumerate(rising)
                for late in sorted(set([early + 1] + rising[at + 1:]))]

    def seen_at(self, times):
        """For each gate the pairs that its ins may have at two times, and for each wire of a gate those of its own."""
        options = {}
        pairs = {}
        for gate in self.gates_below():
            table, ins = self.gates[gate]
            options[gate] = tuple(
                self.pairs_from(gate, place, times) if read < self.many else pairs[read]
                for place, read in enumerate(ins))
            key = (table, options[gate])
            if key not in self.known:
                self.known[key] = gate_pairs(table, options[gate])
            pairs[self.many + gate] = self.known[key]
        return options, pairs

    def pairs_from(self, gate, place, times):
        """The pairs that a reading of an input may have at two times."""
        read = self.gates[gate][1][place]
        before, after = self.change[0][read], self.change[1][read]
        first, last = self.span(gate, place)
        early, late = times
        found = set()
        if before == after or late < last:
            found.add((before, before))
        if early < last and late >= first:
            found.add((before, after))
        if early >= first:
            found.add((after, after))
        return tuple(sorted(found))

    def delays_by(self, times, read_pairs):
        """Delays within the bounds by which readings of inputs have their pairs at two times."""
        delays = [[least for least, most in part] for part in self.bounds]
        for (gate, place), (p, q) in read_pairs.items():
            before = self.change[0][self.gates[gate][1][place]]
            least, most = self.bounds[gate][place]
            if q == before:
                delays[gate][place] = most
            elif p == before:
                delays[gate][place] = max(least, times[0] + 1 - self.shifts[self.many + gate])
        return tuple(tuple(part) for part in delays)


def shifts_of(net, bounds, wire):
    """For a wire and the gates below it, how much later what they show comes to the wire."""
    many, gates = net
    shifts = {wire: 0}
    for gate in range(wire - many, -1, -1):
        if many + gate in shifts:
            for read, (least, most) in zip(gates[gate][1], bounds[gate]):
                if read >= many:
                    shifts[read] = shifts[many + gate] + least
    return shifts
