import unittest

from glitchnet.delaying import no_delays
from glitchnet.errors import NetError, TooMany
from glitchnet.nets import settled
from glitchnet.nettexts import read_net, show_net
from glitchnet.running import is_wave, waves_of, worth_at
from tests.helpers import (
    XOR, XOR3, chain_of_three, check_kept, counted_net, doubling_net, end_of, great_net, in_a_moment, is_numbers,
    made_runs, odd_things, walked)

UP = ((0,), (1,))


class IsWaveTest(unittest.TestCase):
    def told(self, thing):
        told = check_kept(self, is_wave, thing)
        self.assertIsInstance(told, bool)
        return told

    def test_waves(self):
        for times in ((), (0,), (5,), (0, 1), (0, 2, 3), (1, 10 ** 30), (10 ** 39, 10 ** 40 - 1), tuple(range(200)),
                      tuple(range(201)), tuple(range(7, 19000))):
            for first in (0, 1):
                self.assertIs(self.told((first, times)), True)

    def test_times(self):
        for times in ((-1,), (-1, 0), (1, 0), (0, 0), (3, 3), (0, 1, 1), (0, 2, 1), (0, 1, 0), (5, 6, 7, 4),
                      (-10 ** 39,), (True,), (False,), (0, True), (False, 1), (None,), ("0",), ((0,),), ([],), ({},),
                      (0, "1"), (0, None), (0, (1,)), tuple(range(19000)) + (18999,)):
            self.assertIs(self.told((0, times)), False)

    def test_firsts(self):
        for first in (2, -1, True, False, None, "0", "", (), (0,), [0], {}, 10 ** 39):
            self.assertIs(self.told((first, ())), False)
            self.assertIs(self.told((first, (0,))), False)

    def test_other_shapes(self):
        for thing in ((0,), (0, (), ()), (0, (1,), 1), ((1,), 0), [0, ()], (0, []), (0, [1]), (0, {}), (0, {1: 2}),
                      (0, None), (0, 0), (0, "0"), (0, ""), {0: ()}, {0: 0, 1: ()}):
            self.assertIs(self.told(thing), False)

    def test_of_anything(self):
        for thing in odd_things():
            self.assertIs(self.told(thing), False)
            self.assertIs(self.told((thing, ())), thing.__class__ is int and thing in (0, 1))
            self.assertIs(self.told((1, thing)), thing in ((), (0,), (2, 3)) and thing.__class__ is tuple)


class WorthAtTest(unittest.TestCase):
    def test_each_change(self):
        for times in ((), (0,), (4,), (0, 1, 2), (2, 5, 6, 40), (3, 10 ** 30), tuple(range(0, 600, 3))):
            for first in (0, 1):
                wave = (first, times)
                asked = {-1, 0, 1, -10 ** 30, 10 ** 35}
                asked |= {time + near for time in times for near in (-1, 0, 1)}
                for time in sorted(asked):
                    worth = first
                    for turn in times:
                        worth = 1 - worth if turn <= time else worth
                    told = check_kept(self, worth_at, wave, time)
                    self.assertIs(told.__class__, int)
                    self.assertEqual(told, worth)

    def test_one_wave(self):
        self.assertEqual([worth_at((1, (0, 3)), time) for time in range(-2, 6)], [1, 1, 0, 0, 0, 1, 1, 1])


class WavesOfTest(unittest.TestCase):
    def check_walk(self, net, delays, change):
        """The run against a walk through all times."""
        waves = check_kept(self, waves_of, net, delays, change)
        self.assertTrue(is_numbers(waves))
        self.assertTrue(all(is_wave(wave) for wave in waves))
        end = end_of(delays) + 2
        rows = walked(net, delays, change, end)
        self.assertEqual(len(waves), len(rows[0]))
        for wire, (first, times) in enumerate(waves):
            self.assertEqual(first, rows[0][wire])
            turns = [time for time in range(end + 1) if rows[time + 1][wire] != rows[time][wire]]
            self.assertEqual(list(times), turns)
            for time in range(-1, end + 1):
                self.assertEqual(worth_at(waves[wire], time), rows[time + 1][wire])
        self.assertEqual(rows[-1], settled(net, change[1]))

    def test_one_gate(self):
        net = (2, (("0001", (0, 1)),))
        self.assertEqual(waves_of(net, ((2, 0),), ((0, 1), (1, 0))), ((0, (0,)), (1, (0,)), (0, ())))
        self.assertEqual(waves_of(net, ((0, 2),), ((0, 1), (1, 0))), ((0, (0,)), (1, (0,)), (0, (0, 2))))
        self.assertEqual(waves_of(net, ((3, 5),), ((0, 0), (1, 1)))[2], (0, (5,)))
        self.assertEqual(waves_of(net, ((3, 5),), ((1, 1), (0, 0)))[2], (1, (3,)))
        self.assertEqual(waves_of(net, ((3, 3),), ((0, 1), (1, 0)))[2], (0, ()))

    def test_the_same_wire_twice(self):
        net = (1, ((XOR, (0, 0)), (XOR3, (0, 1, 0))))
        self.assertEqual(waves_of(net, ((1, 4), (0, 10, 20)), UP), ((0, (0,)), (0, (1, 4)), (0, (0, 11, 14, 20))))

    def test_nothing_is_swallowed(self):
        net = (1, ((XOR, (0, 0)), ("01", (1,)), ("10", (2,))))
        told = waves_of(net, ((0, 1), (100,), (10 ** 30,)), UP)
        self.assertEqual(told[2:], ((0, (100, 101)), (1, (10 ** 30 + 100, 10 ** 30 + 101))))

    def test_made_runs(self):
        for net, delays, change in made_runs(11, 250):
            self.check_walk(net, delays, change)
        for net, delays, change in made_runs(12, 80, 5, 12):
            self.check_walk(net, delays, change)
        for net, delays, change in made_runs(13, 40, 20, 1):
            self.check_walk(net, delays, change)

    def test_gates_without_change(self):
        for net, delays, change in made_runs(14, 60):
            waves = waves_of(net, delays, (change[0], change[0]))
            self.assertEqual(waves, tuple((worth, ()) for worth in settled(net, change[0])))

    def test_no_delays(self):
        for net, delays, change in made_runs(15, 100, 40):
            waves = waves_of(net, no_delays(net), change)
            before, after = settled(net, change[0]), settled(net, change[1])
            for wave, one, other in zip(waves, before, after):
                self.assertEqual(wave, (one, () if one == other else (0,)))

    def test_great_delays(self):
        most = 10 ** 30
        for net, delays, change in made_runs(16, 60, 6, 3):
            great = tuple(tuple(late * most for late in part) for part in delays)
            small = waves_of(net, delays, change)
            told = waves_of(net, great, change)
            self.assertEqual(told, tuple((first, tuple(time * most for time in times)) for first, times in small))

    def test_at_last_each_wire_is_settled(self):
        for net, delays, change in made_runs(17, 80, 12, 1000):
            waves = waves_of(net, delays, change)
            self.assertEqual(tuple(worth_at(wave, end_of(delays)) for wave in waves), settled(net, change[1]))
            self.assertEqual(tuple(worth_at(wave, -1) for wave in waves), settled(net, change[0]))

    def test_a_net_that_was_read(self):
        net = read_net(show_net(great_net(600)))
        told = in_a_moment(lambda: waves_of(net, no_delays(net), ((0, 0), (1, 1))))
        self.assertEqual(tuple(worth_at(wave, 0) for wave in told), settled(net, (1, 1)))

    def test_a_chain_of_forty_ends_in_a_moment(self):
        net = chain_of_three(40)
        delays = tuple((0, 1, 1) for gate in net[1])
        told = in_a_moment(lambda: waves_of(net, delays, UP))
        self.assertEqual(told[-1], (0, (40,)))


class TooManyTest(unittest.TestCase):
    def refused(self, net, delays, change):
        with self.assertRaises(NetError) as held:
            in_a_moment(lambda: waves_of(net, delays, change))
        self.assertIs(held.exception.__class__, TooMany)

    def test_numbers_about_two_hundred(self):
        for number in (1, 2, 3, 127, 128, 199, 200, 201, 202, 255):
            net, delays = counted_net(number)
            if number <= 200:
                self.assertEqual(len(waves_of(net, delays, UP)[-1][1]), number)
            else:
                self.refused(net, delays, UP)

    def test_gates_behind(self):
        for number in (200, 201):
            (many, gates), delays = counted_net(number)
            last = len(gates)
            for table, ins in (("00", (last,)), ("11", (last,)), ("01", (0,)), ("0000", (last, 0))):
                net = (many, gates + ((table, ins),))
                longer = delays + ((0,) * len(ins),)
                if number == 200:
                    self.assertLess(len(waves_of(net, longer, UP)[-1][1]), 2)
                else:
                    self.refused(net, longer, UP)

    def test_gates_beside(self):
        (many, gates), delays = counted_net(201)
        net = (many, (("01", (0,)),) + tuple((table, tuple(wire + (wire > 0) for wire in ins)) for table, ins in gates))
        self.refused(net, ((3,),) + delays, UP)

    def test_without_change_nothing_is_refused(self):
        net, delays = counted_net(255)
        self.assertTrue(all(wave[1] == () for wave in waves_of(net, delays, ((1,), (1,)))))
        self.assertTrue(all(len(wave[1]) < 2 for wave in waves_of(net, no_delays(net), UP)))

    def test_doubling_is_refused_in_a_moment(self):
        for count in (8, 20, 40):
            self.refused(*doubling_net(count), UP)
        net, delays = doubling_net(7)
        self.assertEqual([len(wave[1]) for wave in waves_of(net, delays, UP)], [1, 2, 4, 8, 16, 32, 64, 128])

    def test_trebling_is_refused_in_a_moment(self):
        net = chain_of_three(40, XOR3)
        self.refused(net, tuple((0, 3 ** wire, 2 * 3 ** wire) for wire in range(40)), UP)


if __name__ == "__main__":
    unittest.main()
