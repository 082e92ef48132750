import functools
import itertools
import random
import unittest

from glitchnet.counting import gate_greatest, greatest
from glitchnet.errors import NetError, TooMany
from glitchnet.networds import words_of
from glitchnet.running import waves_of
from tests.helpers import (
    MAJORITY, XOR, XOR3, chain_formula, chain_of_three, check_kept, in_a_moment, input_readings, is_numbers,
    made_delays, made_formulas, made_runs, tables_of, with_delays)

UP = ((0,), (1,))


def worth_of(table, worths):
    return int(table[int("".join(map(str, worths)), 2)])


def turns_by(table, firsts, order):
    """How often a gate changes where its ins change in this order."""
    worths = list(firsts)
    turns = 0
    for place in order:
        before = worth_of(table, worths)
        worths[place] ^= 1
        turns += before != worth_of(table, worths)
    return turns


def all_orders(numbers):
    """All orders in which ins change, each as often as its number tells."""
    return set(itertools.permutations([place for place, number in enumerate(numbers) for time in range(number)]))


def by_counts(table, firsts, numbers):
    """The greatest number, by what was done so far: for numbers whose orders are too many."""
    @functools.lru_cache(None)
    def ahead(counts):
        best = 0
        for place, count in enumerate(counts):
            if count:
                one = counts[:place] + (count - 1,) + counts[place + 1:]
                was = worth_of(table, [first ^ done & 1 for first, done in zip(firsts, one)])
                now = worth_of(table, [first ^ done & 1 for first, done in zip(firsts, counts)])
                best = max(best, ahead(one) + (was != now))
        return best
    return ahead(tuple(numbers))


class GateGreatestTest(unittest.TestCase):
    def told(self, table, firsts, numbers):
        told = check_kept(self, gate_greatest, table, firsts, numbers)
        self.assertIs(told.__class__, int)
        return told

    def check_orders(self, table, firsts, numbers, orders):
        self.assertEqual(self.told(table, firsts, numbers), max(turns_by(table, firsts, order) for order in orders))

    def test_one_and_two_ins_through_all_orders(self):
        for ins, most in ((1, 5), (2, 3)):
            for numbers in itertools.product(range(most + 1), repeat=ins):
                orders = all_orders(numbers)
                for table in tables_of(ins):
                    for firsts in itertools.product((0, 1), repeat=ins):
                        self.check_orders(table, firsts, numbers, orders)

    def test_three_ins_through_all_orders(self):
        chance = random.Random(71)
        for numbers in itertools.product(range(3), repeat=3):
            orders = all_orders(numbers)
            for table in [XOR3, MAJORITY, "00000001", "01111111", "00011011"] + chance.sample(tables_of(3), 10):
                self.check_orders(table, tuple(chance.randint(0, 1) for place in range(3)), numbers, orders)

    def test_all_tables_of_three_ins_that_change_once(self):
        orders = all_orders((1, 1, 1))
        for table in tables_of(3):
            for firsts in itertools.product((0, 1), repeat=3):
                self.check_orders(table, firsts, (1, 1, 1), orders)

    def test_numbers_to_twelve_end_in_a_moment(self):
        chance = random.Random(72)
        for table in [XOR3, MAJORITY, "00000001", "01111111", "10010110"] + chance.sample(tables_of(3), 12):
            firsts = tuple(chance.randint(0, 1) for place in range(3))
            for numbers in ((12, 12, 12), (12, 11, 10), (0, 12, 7), (12, 1, 12)):
                told = in_a_moment(lambda: gate_greatest(table, firsts, numbers))
                self.assertEqual(told, by_counts(table, firsts, numbers))

    def test_told_however_great(self):
        self.assertEqual(self.told(XOR3, (0, 1, 0), (12, 12, 12)), 36)
        self.assertEqual(self.told(XOR, (1, 1), (12, 12)), 24)
        self.assertEqual(self.told("0001", (0, 0), (12, 12)), 22)
        self.assertEqual(self.told("10", (0,), (12,)), 12)
        self.assertEqual(self.told("01", (1,), (13,)), 13)
        self.assertEqual(in_a_moment(lambda: gate_greatest(XOR3, (0, 0, 0), (36, 36, 36))), 108)

    def test_numbers_of_0(self):
        for ins in (1, 2, 3):
            for table in tables_of(ins)[::3]:
                self.assertEqual(self.told(table, (1,) * ins, (0,) * ins), 0)
        self.assertEqual(self.told("0001", (0, 0), (12, 0)), 0)
        self.assertEqual(self.told("0001", (0, 1), (12, 0)), 12)
        self.assertEqual(self.told("0111", (0, 1), (12, 0)), 0)

    def test_tables_that_tell_one_worth_always(self):
        for ins in (1, 2, 3):
            for sign in "01":
                for firsts in itertools.product((0, 1), repeat=ins):
                    self.assertEqual(self.told(sign * (1 << ins), firsts, (12,) * ins), 0)


class GreatestTest(unittest.TestCase):
    def check_net(self, net, change):
        """Inputs 0 or 1, gates by their ins' numbers; refused just where one comes to more than twelve."""
        numbers = [int(before != after) for before, after in zip(*change)]
        words = words_of(net, change)
        for table, ins in net[1]:
            number = by_counts(table, [words[wire][0] for wire in ins], [numbers[wire] for wire in ins])
            if number > 12:
                self.check_refused(net, change)
                return False
            numbers.append(number)
        told = check_kept(self, greatest, net, change)
        self.assertTrue(is_numbers(told))
        self.assertEqual(told, tuple(numbers))
        for number, (first, last, fro) in zip(told, words):
            self.assertEqual(number & 1, first ^ last)
            self.assertEqual(number > 1, fro)
        return True

    def check_refused(self, net, change):
        with self.assertRaises(NetError) as held:
            in_a_moment(lambda: greatest(net, change))
        self.assertIs(held.exception.__class__, TooMany)

    def test_some_numbers(self):
        net = (2, (("10", (0,)), ("0001", (0, 2)), ("0111", (3, 1)), (XOR, (3, 4))))
        self.assertEqual(greatest(net, ((0, 0), (1, 0))), (1, 0, 1, 2, 2, 4))
        self.assertEqual(greatest(net, ((0, 1), (1, 0))), (1, 1, 1, 2, 3, 5))
        self.assertEqual(greatest(net, ((0, 1), (0, 1))), (0, 0, 0, 0, 0, 0))

    def test_made_nets(self):
        told = [self.check_net(net, change) for net, delays, change in made_runs(73, 120, 9)]
        self.assertEqual(set(told), {True, False})
        for net, change in made_formulas(74, 60, 20):
            self.check_net(net, change)

    def test_a_wire_read_twice(self):
        self.assertEqual(greatest((1, ((XOR, (0, 0)),)), UP), (1, 2))
        self.assertEqual(greatest((1, ((XOR3, (0, 0, 0)),)), UP), (1, 3))
        self.assertEqual(greatest((1, ((XOR, (0, 0)), (XOR, (1, 1)), (XOR, (2, 2)))), UP), (1, 2, 4, 8))
        self.assertEqual(greatest((1, (("01", (0,)), ("0001", (1, 1)), ("0111", (2, 1)))), UP), (1, 1, 1, 1))

    def test_numbers_about_twelve(self):
        four = ((XOR, (0, 0)), (XOR, (1, 1)))
        for behind, number in ((((XOR3, (2, 2, 2)),), 12), (((XOR3, (2, 2, 2)), ("10", (3,))), 12),
                               (((XOR3, (2, 2, 2)), (XOR, (3, 0))), 13), (((XOR, (2, 2)), (XOR3, (3, 2, 0))), 13),
                               (((XOR, (2, 2)), (XOR3, (3, 1, 0))), 11), (((XOR, (2, 2)), (XOR, (3, 2))), 12),
                               (((XOR, (2, 2)), (XOR, (3, 3))), 16), (((XOR, (2, 2)), (XOR3, (3, 3, 3))), 24)):
            net = (1, four + behind)
            self.assertIs(self.check_net(net, UP), number <= 12)
            if number <= 12:
                self.assertEqual(greatest(net, UP)[-1], number)

    def test_refused_though_nothing_behind_it_changes(self):
        net = (1, ((XOR, (0, 0)), (XOR, (1, 1)), (XOR, (2, 2)), (XOR, (3, 3)), ("00", (4,)), ("01", (0,))))
        self.check_refused(net, UP)
        self.assertEqual(greatest(net, ((1,), (1,))), (0,) * 7)
        self.check_refused((1, net[1][:4]), UP)

    def test_what_is_behind_has_no_end(self):
        for table, size in ((XOR, 2), (XOR3, 3)):
            self.check_refused((1, tuple((table, (wire,) * size) for wire in range(40))), UP)

    def test_chains_of_forty(self):
        self.assertEqual(in_a_moment(lambda: greatest(chain_of_three(40), UP)), (1,) * 41)
        self.check_refused(chain_formula(40), ((0, 0, 0), (1, 1, 1)))
        net = chain_formula(40)
        self.assertEqual(greatest(net, ((0, 0, 0), (0, 0, 0))), (0,) * 43)
        many = (1, ((XOR, (0, 0)), (XOR, (1, 1)), (XOR3, (2, 2, 2))) + tuple(
            ("00001111", (wire, wire, wire)) for wire in range(3, 40)))
        self.assertEqual(in_a_moment(lambda: greatest(many, UP)), (1, 2, 4) + (12,) * 38)

    def test_no_delays_show_more(self):
        chance = random.Random(75)
        for net, delays, change in made_runs(76, 150, 7):
            try:
                numbers = greatest(net, change)
            except TooMany:
                continue
            for most in (0, 1, 2, 9, 100):
                waves = waves_of(net, made_delays(chance, net, most), change)
                for number, wave in zip(numbers, waves):
                    self.assertLessEqual(len(wave[1]), number)
                    self.assertEqual(len(wave[1]) & 1, number & 1)

    def test_of_a_formula_the_numbers_are_exact(self):
        """Of small formulas: the numbers that some orders of the inputs' changes, together or not, show."""
        tried = 0
        for net, change in made_formulas(77, 300, 4):
            readings = [(gate, place) for gate, place in input_readings(net)
                        if change[0][net[1][gate][1][place]] != change[1][net[1][gate][1][place]]]
            if not 2 <= len(readings) <= 4:
                continue
            tried += 1
            seen = [set() for wire in range(net[0] + len(net[1]))]
            for lates in itertools.product(range(len(readings)), repeat=len(readings)):
                for numbers, wave in zip(seen, waves_of(net, with_delays(net, readings, lates), change)):
                    numbers.add(len(wave[1]))
            for numbers, number in zip(seen, greatest(net, change)):
                self.assertEqual(sorted(numbers), list(range(number & 1, number + 1, 2)))
        self.assertGreater(tried, 80)


if __name__ == "__main__":
    unittest.main()
