import random
import unittest

from glitchnet.errors import TooMany
from glitchnet.machines import Machine
from glitchnet.nets import settled
from glitchnet.running import waves_of, worth_at
from tests.helpers import (
    XOR, XOR3, chain_of_three, check_kept, counted_net, doubling_net, end_of, great_net, in_a_moment, is_numbers,
    made_runs, same_parts, walked)

UP = ((0,), (1,))


class MachineTest(unittest.TestCase):
    def check_rows(self, machine, rows):
        """Step by step the rows, from time -1 on."""
        self.assertEqual((machine.time(), machine.worths()), (-1, rows[0]))
        for time, row in enumerate(rows[1:]):
            self.assertIsNone(machine.step())
            self.assertEqual((machine.time(), machine.worths()), (time, row))
            self.assertTrue(is_numbers(machine.worths()))
            self.assertIs(machine.time().__class__, int)

    def test_at_first(self):
        for net, delays, change in made_runs(21, 60):
            machine = Machine(net, delays, change)
            self.assertEqual(machine.time(), -1)
            self.assertEqual(machine.worths(), settled(net, change[0]))
            self.assertEqual(machine.worths(), settled(net, change[0]))
            self.assertEqual(machine.time(), -1)

    def test_as_the_run_tells(self):
        for net, delays, change in made_runs(22, 150) + made_runs(23, 30, 20, 2):
            waves = waves_of(net, delays, change)
            end = end_of(delays) + 3
            rows = [tuple(worth_at(wave, time) for wave in waves) for time in range(-1, end)]
            self.check_rows(Machine(net, delays, change), rows)
            self.assertEqual(rows[-1], settled(net, change[1]))

    def test_as_a_walk_tells(self):
        for net, delays, change in made_runs(24, 60, 10, 6):
            self.check_rows(Machine(net, delays, change), walked(net, delays, change, end_of(delays) + 2))

    def test_one_gate(self):
        machine = Machine((2, (("0001", (0, 1)),)), ((0, 2),), ((0, 1), (1, 0)))
        told = []
        for time in range(5):
            told.append(machine.worths())
            machine.step()
        self.assertEqual(told, [(0, 1, 0), (1, 0, 1), (1, 0, 1), (1, 0, 0), (1, 0, 0)])

    def test_late_readings(self):
        net = (1, (("01", (0,)), (XOR, (1, 0)), (XOR, (2, 2)), (XOR3, (3, 1, 0))))
        delays = ((700,), (1, 900), (0, 3500), (2, 40, 10 ** 30))
        waves = waves_of(net, delays, UP)
        rows = [tuple(worth_at(wave, time) for wave in waves) for time in range(-1, 5000)]
        in_a_moment(lambda: self.check_rows(Machine(net, delays, UP), rows))
        self.assertEqual(waves[3][1], (701, 900, 4201, 4400))

    def test_greatest_delays_never_come(self):
        machine = Machine((1, (("01", (0,)),)), ((10 ** 30,),), UP)
        for step in range(300):
            machine.step()
        self.assertEqual((machine.time(), machine.worths()), (299, (1, 0)))

    def test_wires_that_change_more_than_two_hundred_times(self):
        net, delays = doubling_net(10)
        with self.assertRaises(TooMany):
            waves_of(net, delays, UP)
        rows = walked(net, delays, UP, 1100)
        changes = sum(one[-1] != other[-1] for one, other in zip(rows, rows[1:]))
        self.assertEqual(changes, 1024)
        self.check_rows(Machine(net, delays, UP), rows)
        net, delays = counted_net(255)
        self.check_rows(Machine(net, delays, UP), walked(net, delays, UP, 8000))

    def test_a_doubling_net_of_forty_goes_on(self):
        net, delays = doubling_net(40)
        self.check_stepped(net, delays, UP, 600)

    def test_a_chain_of_forty_goes_on_in_a_moment(self):
        for table in (XOR3, "00010111", "10000000"):
            net = chain_of_three(40, table)
            for lates in ((0, 0, 0), (0, 1, 1), (1, 2, 3), (0, 5, 17)):
                self.check_stepped(net, (lates,) * 40, UP, 400)

    def test_a_great_net_goes_on_in_a_moment(self):
        net = great_net(500)
        delays = tuple(tuple(1 + place for place in range(len(ins))) for table, ins in net[1])
        self.check_stepped(net, delays, ((0, 1), (1, 0)), 200)

    def check_stepped(self, net, delays, change, steps):
        machine = Machine(net, delays, change)
        told = [machine.worths()]

        def go_on():
            for step in range(steps):
                machine.step()
                told.append(machine.worths())
        in_a_moment(go_on)
        # assertEqual would spell out the differences of thousands of rows.
        self.assertTrue(told == walked(net, delays, change, steps - 1))

    def test_machines_beside_one_another(self):
        runs = made_runs(25, 12)
        runs += [(net, delays, (b, a)) for net, delays, (a, b) in runs]
        runs += runs[:6]
        machines = [Machine(*run) for run in runs]
        rows = [walked(*run, 60) for run in runs]
        chance = random.Random(26)
        steps = [0] * len(runs)
        for turn in range(800):
            at = chance.randrange(len(runs))
            if steps[at] < 60:
                machines[at].step()
                steps[at] += 1
            for number, machine in enumerate(machines):
                self.assertEqual(machine.time(), steps[number] - 1)
                self.assertEqual(machine.worths(), rows[number][steps[number]])

    def test_what_was_told_stays(self):
        net, delays = doubling_net(6)
        machine = Machine(net, delays, UP)
        told = []
        for step in range(80):
            told.append(machine.worths())
            machine.step()
        self.assertTrue(told == walked(net, delays, UP, 78))

    def test_what_is_handed_in_stays(self):
        def worths_at_ten(net, delays, change):
            machine = Machine(net, delays, change)
            for step in range(11):
                machine.step()
            return machine.worths()
        for net, delays, change in made_runs(27, 30):
            told = check_kept(self, worths_at_ten, net, delays, change)
            self.assertTrue(same_parts(told, walked(net, delays, change, 10)[-1]))


if __name__ == "__main__":
    unittest.main()
