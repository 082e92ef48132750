import unittest

from glitchnet.delaying import is_delays, no_delays, readings_of
from tests.helpers import check_kept, great_net, is_numbers, made_nets, odd_things

NET = (2, (("10", (0,)), ("0001", (0, 2)), ("01101001", (3, 3, 1))))
ONE_IN = (1, (("10", (0,)),))


class IsDelaysTest(unittest.TestCase):
    def told(self, net, thing):
        told = check_kept(self, is_delays, net, thing)
        self.assertIsInstance(told, bool)
        return told

    def test_delays(self):
        for thing in (((0,), (0, 0), (0, 0, 0)), ((1,), (2, 3), (4, 5, 6)), ((0,), (10 ** 30, 0), (7, 10 ** 39, 0))):
            self.assertIs(self.told(NET, thing), True)

    def test_delays_of_made_nets(self):
        for net in made_nets(6, 40):
            delays = tuple(tuple(range(len(ins))) for table, ins in net[1])
            self.assertIs(self.told(net, delays), True)
            self.assertIs(self.told(net, delays + ((0,),)), False)
            self.assertIs(self.told(net, delays[1:]), False)
            self.assertIs(self.told(net, delays[:-1] + (delays[-1] + (0,),)), False)
            self.assertIs(self.told(net, delays[:-1] + (delays[-1][1:],)), False)

    def test_other_numbers(self):
        for delay in (-1, -10 ** 39, True, False, None, "0", (0,), [0], (), {}):
            self.assertIs(self.told(NET, ((delay,), (0, 0), (0, 0, 0))), False)
            self.assertIs(self.told(NET, ((0,), (0, delay), (0, 0, 0))), False)
            self.assertIs(self.told(NET, ((0,), (0, 0), (0, 0, delay))), False)

    def test_lists_are_no_tuples(self):
        for thing in ([(0,), (0, 0), (0, 0, 0)], ([0], (0, 0), (0, 0, 0)), ((0,), (0, 0), [0, 0, 0]),
                      {0: (0,), 1: (0, 0), 2: (0, 0, 0)}):
            self.assertIs(self.told(NET, thing), False)

    def test_gates_exchanged(self):
        self.assertIs(self.told(NET, ((0, 0), (0,), (0, 0, 0))), False)
        self.assertIs(self.told(NET, ((0, 0, 0), (0, 0), (0,))), False)
        self.assertIs(self.told(NET, (0, 0, 0, 0, 0, 0)), False)

    def test_of_anything(self):
        for thing in odd_things():
            self.assertIs(self.told(NET, thing), False)
            self.assertIs(self.told(ONE_IN, thing), False)
            self.assertIs(self.told(NET, ((0,), (0, 0), thing)), False)

    def test_a_great_net(self):
        net = great_net(3000)
        self.assertIs(self.told(net, no_delays(net)), True)
        self.assertIs(self.told(net, no_delays(net)[:-1] + ((-1, 0, 0),)), False)


class NoDelaysTest(unittest.TestCase):
    def test_all_are_nought(self):
        self.assertEqual(no_delays(NET), ((0,), (0, 0), (0, 0, 0)))
        for net in made_nets(7, 40) + [great_net(1000)]:
            told = check_kept(self, no_delays, net)
            self.assertTrue(is_numbers(told))
            self.assertIs(is_delays(net, told), True)
            self.assertEqual({delay for part in told for delay in part}, {0})


class ReadingsOfTest(unittest.TestCase):
    def test_all_readings_rising(self):
        self.assertEqual(readings_of(NET), ((0, 0), (1, 0), (1, 1), (2, 0), (2, 1), (2, 2)))
        self.assertEqual(readings_of(ONE_IN), ((0, 0),))
        for net in made_nets(8, 40) + [great_net(1000)]:
            told = check_kept(self, readings_of, net)
            self.assertTrue(is_numbers(told))
            self.assertEqual(list(told), sorted(set(told)))
            self.assertEqual(len(told), sum(len(ins) for table, ins in net[1]))
            for gate, place in told:
                self.assertLess(place, len(net[1][gate][1]))


if __name__ == "__main__":
    unittest.main()
