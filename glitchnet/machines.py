"""The plain machine: a net that goes on by one time a step."""

from glitchnet.nets import settled, table_worth


class Machine:
    """A net with delays on its way through a change, at time -1 at first."""

    def __init__(self, net, delays, change):
        self.gates = net[1]
        self.delays = delays
        self.goal = change[1]
        self.now = -1
        self.firsts = settled(net, change[0])
        self.levels = list(self.firsts)
        # The times at which each wire has changed so far, and for each reading
        # how many of them have come out of it: so no worth is reckoned twice.
        self.turns = [[] for first in self.firsts]
        self.heard = [[0] * len(ins) for table, ins in self.gates]

    def time(self):
        """The time at which the machine is."""
        return self.now

    def worths(self):
        """The worths of all wires at this time."""
        return tuple(self.levels)

    def step(self):
        """Goes on by one time."""
        self.now += 1
        for wire, worth in enumerate(self.goal):
            self.set_level(wire, worth)
        for gate, (table, ins) in enumerate(self.gates):
            worths = [self.worth_read(gate, place) for place in range(len(ins))]
            self.set_level(len(self.goal) + gate, table_worth(table, worths))

    def worth_read(self, gate, place):
        """What comes out of a reading at this time."""
        wire = self.gates[gate][1][place]
        due = self.now - self.delays[gate][place]
        turns = self.turns[wire]
        done = self.heard[gate][place]
        while done < len(turns) and turns[done] <= due:
            done += 1
        self.heard[gate][place] = done
        return self.firsts[wire] ^ (done & 1)

    def set_level(self, wire, worth):
        """Gives a wire its worth at this time."""
        if self.levels[wire] != worth:
            self.levels[wire] = worth
            self.turns[wire].append(self.now)
