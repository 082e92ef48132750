import itertools
import unittest

from glitchnet.nets import is_change, is_net, is_row, rows_of, settled
from tests.helpers import (
    chain_of_three, check_kept, great_net, in_a_moment, is_numbers, made_nets, odd_things, tables_of)


def plain_settled(net, row):
    """Settled worths, the table looked up by the figures that the ins write."""
    worths = list(row)
    for table, ins in net[1]:
        worths.append(int(table[int("".join(str(worths[wire]) for wire in ins), 2)]))
    return tuple(worths)


def is_one_nought(thing):
    """Whether it is the tuple (0,), the one odd thing that is a row and the ins of a gate."""
    return thing.__class__ is tuple and thing == (0,)


class IsNetTest(unittest.TestCase):
    def told(self, thing):
        told = check_kept(self, is_net, thing)
        self.assertIsInstance(told, bool)
        return told

    def test_nets(self):
        good = [
            (1, (("10", (0,)),)),
            (6, (("0001", (5, 5)),)),
            (6, (("01101001", (0, 3, 5)), ("00", (6,)))),
            (2, (("0001", (0, 1)), ("0111", (0, 2)), ("10010110", (3, 3, 3)))),
            (1, tuple(("01", (wire,)) for wire in range(41))),
            great_net(1000), great_net(3000),
        ]
        for net in good + made_nets(1, 40):
            self.assertIs(self.told(net), True)

    def test_nets_at_all_numbers_of_inputs(self):
        for many in range(-1, 10):
            self.assertIs(self.told((many, (("10", (0,)),))), 1 <= many <= 6)

    def test_ins_are_wires_of_lesser_numbers(self):
        for wire in (-10 ** 39, -2, -1, 3, 4, 10 ** 39):
            self.assertIs(self.told((2, (("10", (0,)), ("10", (wire,))))), False)
            self.assertIs(self.told((2, (("10", (0,)), ("0001", (0, wire))))), False)
        for wire in (0, 1, 2):
            self.assertIs(self.told((2, (("10", (0,)), ("10", (wire,))))), True)
        self.assertIs(self.told((2, (("10", (2,)), ("10", (0,))))), False)

    def test_tables_of_each_length(self):
        for size, length in itertools.product(range(6), range(34)):
            net = (2, (("0" * length, (0,) * size),))
            self.assertIs(self.told(net), 1 <= size <= 3 and length == 1 << size)

    def test_tables_of_other_signs(self):
        for table in ("02", "0 ", " 0", "ab", "0\n", "1-", "-1", "", "\n\n", "01\n", " 01"):
            self.assertIs(self.told((1, ((table, (0,)),))), False)
        for table in (10, None, True, ("1", "0"), ["1", "0"], ("10",), {"1": 0, "0": 1}, ("", "")):
            self.assertIs(self.told((1, ((table, (0,)),))), False)

    def test_truths_are_no_numbers(self):
        self.assertIs(self.told((True, (("10", (0,)),))), False)
        self.assertIs(self.told((1, (("10", (False,)),))), False)
        self.assertIs(self.told((2, (("0001", (0, True)),))), False)

    def test_lists_are_no_tuples(self):
        bad = [
            [1, (("10", (0,)),)],
            (1, [("10", (0,))]),
            (1, (["10", (0,)],)),
            (1, (("10", [0]),)),
            (1, {0: ("10", (0,))}),
            (1, (("10", {0: 0}),)),
        ]
        for thing in bad:
            self.assertIs(self.told(thing), False)

    def test_parts_too_few_or_too_many(self):
        gate = ("10", (0,))
        bad = [
            (1,), (1, (gate,), ()), (1, ()), ((gate,), 1), (1, gate), (1, (("10",),)), (1, (("10", (0,), 0),)),
            (1, (((0,), "10"),)), (1, (("10", 0),)), (1, (("1", ()),)), (1, (("0" * 16, (0, 0, 0, 0)),)),
            (1, (gate, ())), (1, (gate, None)), (1, (gate, "10")), ("1", (gate,)), (None, (gate,)), (gate,),
            (1, (("10", ("0",)),)), (1, (("10", (None,)),)), (1, (("10", ((0,),)),)),
        ]
        for thing in bad:
            self.assertIs(self.told(thing), False)

    def test_a_last_gate_that_is_wrong(self):
        many, gates = great_net(1500)
        self.assertIs(self.told((many, gates + (("10", (1502,)),))), False)
        self.assertIs(self.told((many, gates + (("10", (1501,)),))), True)

    def test_of_anything(self):
        for thing in odd_things():
            self.assertIs(self.told(thing), False)
            self.assertIs(self.told((1, thing)), False)
            self.assertIs(self.told((1, (thing,))), False)
            self.assertIs(self.told((1, (("10", thing),))), is_one_nought(thing))


class IsRowTest(unittest.TestCase):
    def told(self, many, thing):
        told = check_kept(self, is_row, many, thing)
        self.assertIsInstance(told, bool)
        return told

    def test_rows(self):
        for many in range(1, 7):
            for row in itertools.product((0, 1), repeat=many):
                self.assertIs(self.told(many, row), True)
                self.assertIs(self.told(many, list(row)), False)
                self.assertIs(self.told(many, row[1:]), False)
                self.assertIs(self.told(many, row + (0,)), False)

    def test_other_worths(self):
        for worth in (2, -1, True, False, None, "0", "1", (0,), (), [0], {}, 10 ** 39):
            self.assertIs(self.told(3, (0, worth, 1)), False)
            self.assertIs(self.told(1, (worth,)), False)

    def test_of_anything(self):
        for many in range(1, 7):
            for thing in odd_things():
                self.assertIs(self.told(many, thing), many == 1 and is_one_nought(thing))


class IsChangeTest(unittest.TestCase):
    def told(self, many, thing):
        told = check_kept(self, is_change, many, thing)
        self.assertIsInstance(told, bool)
        return told

    def test_changes(self):
        for many in range(1, 4):
            rows = list(itertools.product((0, 1), repeat=many))
            for a, b in itertools.product(rows, rows):
                self.assertIs(self.told(many, (a, b)), True)
                self.assertIs(self.told(many + 1, (a, b)), False)
                self.assertIs(self.told(many, [a, b]), False)
                self.assertIs(self.told(many, (list(a), b)), False)
                self.assertIs(self.told(many, (a, list(b))), False)
                self.assertIs(self.told(many, (a,)), False)
                self.assertIs(self.told(many, (a, b, a)), False)
                self.assertIs(self.told(many, (a, b + (0,))), False)
                self.assertIs(self.told(many, (a[1:], b)), False)

    def test_other_worths(self):
        for worth in (2, -1, True, False, None, "1", (1,), 10 ** 39):
            self.assertIs(self.told(2, ((0, 1), (1, worth))), False)
            self.assertIs(self.told(2, ((worth, 1), (1, 0))), False)

    def test_of_anything(self):
        for many in range(1, 7):
            row = (0,) * many
            for thing in odd_things():
                self.assertIs(self.told(many, thing), False)
                self.assertIs(self.told(many, (row, thing)), many == 1 and is_one_nought(thing))


class RowsOfTest(unittest.TestCase):
    def test_all_rows_rising(self):
        for many in range(1, 7):
            rows = check_kept(self, rows_of, many)
            self.assertTrue(is_numbers(rows))
            self.assertEqual(len(rows), 2 ** many)
            self.assertEqual(rows, tuple(itertools.product((0, 1), repeat=many)))
            self.assertEqual(list(rows), sorted(set(rows)))

    def test_rows_of_two(self):
        self.assertEqual(rows_of(2), ((0, 0), (0, 1), (1, 0), (1, 1)))


class SettledTest(unittest.TestCase):
    def test_named_gates(self):
        net = (2, (("0001", (0, 1)), ("0111", (0, 1)), ("10", (0,))))
        self.assertEqual(settled(net, (0, 0)), (0, 0, 0, 0, 1))
        self.assertEqual(settled(net, (0, 1)), (0, 1, 0, 1, 1))
        self.assertEqual(settled(net, (1, 0)), (1, 0, 0, 1, 0))
        self.assertEqual(settled(net, (1, 1)), (1, 1, 1, 1, 0))

    def test_the_first_in_has_the_highest_place(self):
        self.assertEqual(settled((2, (("0010", (0, 1)),)), (1, 0)), (1, 0, 1))
        self.assertEqual(settled((2, (("0010", (1, 0)),)), (1, 0)), (1, 0, 0))
        for place in range(8):
            table = "0" * place + "1" + "0" * (7 - place)
            for row in rows_of(3):
                worth = int(4 * row[0] + 2 * row[1] + row[2] == place)
                self.assertEqual(settled((3, ((table, (0, 1, 2)),)), row)[3], worth)

    def test_all_tables(self):
        for size, ins in ((1, (2,)), (2, (2, 0)), (3, (1, 2, 0))):
            for table in tables_of(size):
                for row in rows_of(3):
                    net = (3, ((table, ins),))
                    self.assertEqual(settled(net, row), plain_settled(net, row))

    def test_the_same_wire_twice(self):
        for table in tables_of(2):
            for worth in (0, 1):
                self.assertEqual(settled((1, ((table, (0, 0)),)), (worth,))[1], int(table[3 * worth]))

    def test_made_nets(self):
        for net in made_nets(2, 60, 40):
            for row in rows_of(net[0]):
                told = check_kept(self, settled, net, row)
                self.assertTrue(is_numbers(told))
                self.assertEqual(told, plain_settled(net, row))

    def test_a_chain_of_forty_ends_in_a_moment(self):
        for worth in (0, 1):
            told = in_a_moment(lambda: settled(chain_of_three(40), (worth,)))
            self.assertEqual(told, (worth,) * 41)
        told = in_a_moment(lambda: settled(chain_of_three(40, "10000000"), (0,)))
        self.assertEqual(told, (0, 1) * 20 + (0,))

    def test_a_great_net(self):
        net = great_net(1200)
        for row in rows_of(2):
            self.assertEqual(in_a_moment(lambda: settled(net, row)), plain_settled(net, row))


if __name__ == "__main__":
    unittest.main()
