import random
import unittest

from glitchnet.counting import greatest
from glitchnet.delaying import is_delays
from glitchnet.errors import NetError, NotFormula, TooMany
from glitchnet.networds import words_of
from glitchnet.ordering import delays_for
from glitchnet.running import waves_of
from tests.helpers import (
    MAJORITY, XOR, XOR3, chain_formula, check_kept, in_a_moment, is_numbers, made_change, made_formula, made_formulas,
    not_formulas)

UP = ((0,), (1,))
GREAT = (10 ** 30, 10 ** 39, -1, -2, -10 ** 30, 200, 201)

# Each wire's greatest number is the one ahead and those of the inputs that it reads, at a change of all inputs.
TREE = (6, (
    (XOR3, (0, 1, 2)), (XOR3, (3, 4, 5)), (XOR3, (6, 7, 0)), (XOR3, (1, 2, 3)), (XOR, (4, 5)), (XOR3, (8, 9, 10))))


class DelaysForTest(unittest.TestCase):
    def check_number(self, net, change, wire, number, most):
        """Delays that show just this number, where it is one of those up to the most; else None."""
        told = check_kept(self, delays_for, net, change, wire, number)
        if not 0 <= number <= most or (most - number) & 1:
            self.assertIsNone(told)
            return
        self.assertTrue(is_numbers(told))
        self.assertTrue(is_delays(net, told))
        for (table, ins), part in zip(net[1], told):
            for read, late in zip(ins, part):
                self.assertTrue(read < net[0] or late == 0)
        self.assertEqual(len(waves_of(net, told, change)[wire][1]), number)

    def check_net(self, net, change):
        for wire, most in enumerate(greatest(net, change)):
            for number in range(-3, most + 4):
                self.check_number(net, change, wire, number, most)
            for number in GREAT:
                self.check_number(net, change, wire, number, most)

    def test_one_gate(self):
        self.check_net((1, ((XOR, (0, 0)),)), UP)
        self.check_net((1, ((XOR3, (0, 0, 0)),)), UP)
        self.check_net((2, (("0001", (0, 1)),)), ((0, 1), (1, 0)))
        self.check_net((2, (("0001", (0, 1)),)), ((0, 1), (1, 1)))
        self.check_net((3, (("00", (0,)), (MAJORITY, (0, 1, 2)))), ((0, 1, 1), (1, 1, 0)))

    def test_twelve_changes(self):
        change = ((0, 1, 0, 1, 0, 1), (1, 0, 1, 0, 1, 0))
        self.assertEqual(greatest(TREE, change)[6:], (3, 3, 7, 3, 2, 12))
        self.check_net(TREE, change)

    def test_made_formulas(self):
        done = 0
        for net, change in made_formulas(81, 150, 8) + made_formulas(82, 8, 40):
            try:
                greatest(net, change)
            except TooMany:
                continue
            done += 1
            self.check_net(net, change)
        self.assertGreater(done, 120)

    def test_none_one_some_and_all_inputs(self):
        chance = random.Random(83)
        for count in (1, 3, 9, 20):
            net = made_formula(chance, 6, count, 9)
            a = tuple(chance.randint(0, 1) for place in range(6))
            for turned in ((), (2,), (1, 3), range(6)):
                self.check_net(net, (a, tuple(worth ^ (place in turned) for place, worth in enumerate(a))))

    def test_inputs(self):
        net = (2, (("0001", (0, 1)),))
        change = ((0, 1), (1, 1))
        for wire, most in ((0, 1), (1, 0)):
            for number in (-1, 0, 1, 2, 3):
                self.check_number(net, change, wire, number, most)

    def test_forty_gates_end_in_a_moment(self):
        net = chain_formula(40)
        change = ((0, 0, 0), (1, 0, 0))
        shorter = (3, net[1][:12])
        with self.assertRaises(TooMany):
            greatest(net, change)
        in_a_moment(lambda: self.check_net(shorter, change))
        long = (2, ((XOR3, (0, 0, 0)),) + tuple(("0110", (wire, 1)) for wire in range(2, 41)))
        self.assertEqual(greatest(long, ((0, 1), (1, 1)))[-1], 3)
        in_a_moment(lambda: self.check_net(long, ((0, 1), (1, 1))))


class RefusedTest(unittest.TestCase):
    def check_refused(self, error, net, change, wire, number):
        with self.assertRaises(NetError) as held:
            in_a_moment(lambda: delays_for(net, change, wire, number))
        self.assertIs(held.exception.__class__, error)

    def test_no_formula(self):
        chance = random.Random(84)
        for net in not_formulas():
            for change in (made_change(chance, net[0]), ((0,) * net[0], (1,) * net[0]), ((0,) * net[0], (0,) * net[0])):
                for wire in range(net[0] + len(net[1])):
                    for number in (-1, 0, 1, 2, 10 ** 30):
                        self.check_refused(NotFormula, net, change, wire, number)

    def test_too_many(self):
        net = chain_formula(40)
        change = ((0, 0, 0), (1, 1, 1))
        for wire in (0, 3, 4, 20, 42):
            for number in (-1, 0, 1, 2, 12, 13, 10 ** 30):
                self.check_refused(TooMany, net, change, wire, number)
        self.assertTrue(words_of(net, change)[42][2])
        beside = (6, TREE[1] + ((XOR3, (11, 0, 1)),))
        for wire in (0, 6, 11, 12):
            self.check_refused(TooMany, beside, ((0,) * 6, (1,) * 6), wire, 1)

    def test_no_formula_goes_first(self):
        for table, size in ((XOR, 2), (XOR3, 3)):
            net = (1, tuple((table, (wire,) * size) for wire in range(40)))
            for wire in (0, 1, 40):
                self.check_refused(NotFormula, net, UP, wire, 1)


if __name__ == "__main__":
    unittest.main()
