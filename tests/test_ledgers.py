import functools
import itertools
import random
import unittest

from glitchnet.counting import greatest
from glitchnet.errors import NetError, TooMany
from glitchnet.ledgers import ledger_holds, ledger_of
from glitchnet.running import waves_of
from tests.helpers import (
    MAJORITY, XOR, XOR3, chain_formula, chain_of_three, check_kept, in_a_moment, is_numbers, made_delays,
    made_formulas, made_runs, odd_things)

UP = ((0,), (1,))


def worth_of(table, worths):
    return int(table[int("".join(map(str, worths)), 2)])


def settled_by(net, row):
    worths = list(row)
    for table, ins in net[1]:
        worths.append(worth_of(table, [worths[wire] for wire in ins]))
    return worths


def all_counts(numbers):
    return list(itertools.product(*[range(number + 1) for number in numbers]))


def walked_part(table, firsts, numbers):
    """For each tuple of counts the greatest number that can still come, by a walk of the test's own."""
    @functools.lru_cache(None)
    def still(counts):
        best = 0
        was = worth_of(table, [first ^ count & 1 for first, count in zip(firsts, counts)])
        for place, count in enumerate(counts):
            if count < numbers[place]:
                one = counts[:place] + (count + 1,) + counts[place + 1:]
                now = worth_of(table, [first ^ done & 1 for first, done in zip(firsts, one)])
                best = max(best, still(one) + (was != now))
        return best
    return tuple(still(counts) for counts in all_counts(numbers))


def walked_ledger(net, change):
    """The ledger, or None where it is refused."""
    firsts = settled_by(net, change[0])
    numbers = [int(before != after) for before, after in zip(*change)]
    parts = []
    for table, ins in net[1]:
        part = walked_part(table, [firsts[wire] for wire in ins], [numbers[wire] for wire in ins])
        if part[0] > 12:
            return None
        parts.append(part)
        numbers.append(part[0])
    return tuple(parts) if sum(map(len, parts)) <= 4000 else None


def walked_holds(net, change, ledger):
    """Whether a ledger of the right lengths holds, counts by counts."""
    firsts = settled_by(net, change[0])
    numbers = [int(before != after) for before, after in zip(*change)]
    for (table, ins), part in zip(net[1], ledger):
        every = all_counts([numbers[wire] for wire in ins])
        if len(every) != len(part):
            return False
        at = dict(zip(every, part))
        for counts in every:
            was = worth_of(table, [firsts[wire] ^ count & 1 for wire, count in zip(ins, counts)])
            for place in range(len(ins)):
                one = counts[:place] + (counts[place] + 1,) + counts[place + 1:]
                if one in at:
                    now = worth_of(table, [firsts[wire] ^ count & 1 for wire, count in zip(ins, one)])
                    if at[counts] < at[one] + (was != now):
                        return False
        numbers.append(part[0])
    return True


def net_of_numbers(total):
    """A net whose ledger, by a change from 0 to 1, has just so many numbers, from 2,400 on."""
    gates = [(XOR, (0, 0)), (XOR, (1, 1)), (XOR3, (2, 2, 2)), ("00000000", (3, 3, 3)), ("00", (0,))]
    left = total - 4 - 9 - 125 - 2197 - 2
    for size, gate in ((169, ("0000", (3, 3))), (13, ("00", (3,))), (2, ("00", (0,))), (1, ("00", (5,)))):
        gates += [gate] * (left // size)
        left %= size
    return (1, tuple(gates))


class LedgerOfTest(unittest.TestCase):
    def check_net(self, net, change):
        walked = walked_ledger(net, change)
        if walked is None:
            self.check_refused(net, change)
            return False
        told = check_kept(self, ledger_of, net, change)
        self.assertTrue(is_numbers(told))
        self.assertEqual(told, walked)
        self.assertEqual(tuple(part[0] for part in told), greatest(net, change)[net[0]:])
        self.assertIs(check_kept(self, ledger_holds, net, change, told), True)
        return True

    def check_refused(self, net, change):
        with self.assertRaises(NetError) as held:
            in_a_moment(lambda: ledger_of(net, change))
        self.assertIs(held.exception.__class__, TooMany)

    def test_some_ledgers(self):
        self.assertEqual(ledger_of((1, (("10", (0,)),)), UP), ((1, 0),))
        self.assertEqual(ledger_of((1, (("10", (0,)),)), ((1,), (1,))), ((0,),))
        self.assertEqual(ledger_of((2, (("0001", (0, 1)),)), ((0, 1), (1, 0))), ((2, 0, 1, 0),))
        self.assertEqual(ledger_of((2, (("0001", (0, 1)),)), ((0, 1), (1, 1))), ((1, 0),))
        net = (1, ((XOR, (0, 0)), ("0001", (1, 0))))
        self.assertEqual(ledger_of(net, UP), ((2, 1, 1, 0), (2, 2, 2, 1, 0, 0)))

    def test_one_gate_of_one_to_three_ins(self):
        for table, ins in (("01", (0,)), ("00", (0,)), (XOR, (0, 1)), ("0001", (0, 1)), ("0111", (1, 0)), (XOR, (0, 0)),
                           (XOR3, (0, 1, 2)), (MAJORITY, (0, 1, 2)), ("00011011", (2, 0, 0)), ("11111111", (0, 1, 2))):
            for change in itertools.product(itertools.product((0, 1), repeat=3), repeat=2):
                self.assertTrue(self.check_net((3, ((table, ins),)), change))

    def test_made_nets(self):
        told = [self.check_net(net, change) for net, delays, change in made_runs(91, 120, 7)]
        self.assertEqual(set(told), {True, False})
        for net, change in made_formulas(92, 60, 12):
            self.check_net(net, change)

    def test_exactly_four_thousand_numbers(self):
        for total in (3000, 3999, 4000):
            net = net_of_numbers(total)
            self.assertLessEqual(len(net[1]), 40)
            self.assertEqual(sum(map(len, in_a_moment(lambda: ledger_of(net, UP)))), total)
            self.assertTrue(self.check_net(net, UP))
        for total in (4001, 4002, 4100):
            net = net_of_numbers(total)
            self.assertEqual(max(greatest(net, UP)), 12)
            self.check_refused(net, UP)

    def test_more_than_twelve(self):
        self.check_refused((1, tuple((XOR, (wire, wire)) for wire in range(4))), UP)
        self.check_refused((1, tuple((XOR, (wire, wire)) for wire in range(40))), UP)
        self.check_refused((1, tuple((XOR, (wire, wire)) for wire in range(4)) + (("00", (4,)),)), UP)
        self.check_refused(chain_formula(40), ((0, 0, 0), (1, 1, 1)))
        self.assertEqual(ledger_of(chain_formula(40), ((0, 0, 0), (0, 0, 0))), ((0,),) * 40)

    def test_chains_of_forty(self):
        self.assertTrue(self.check_net(chain_of_three(40), UP))
        self.assertTrue(self.check_net((1, tuple(("10", (wire,)) for wire in range(40))), UP))


class LedgerHoldsTest(unittest.TestCase):
    NET = (2, ((XOR, (0, 1)), ("0001", (2, 0)), ("10", (3,))))
    CHANGE = ((0, 1), (1, 0))

    def told(self, net, change, thing):
        told = check_kept(self, ledger_holds, net, change, thing)
        self.assertIsInstance(told, bool)
        return told

    def test_each_number_too_small(self):
        for net, delays, change in made_runs(93, 60, 5):
            try:
                ledger = ledger_of(net, change)
            except TooMany:
                continue
            for gate, part in enumerate(ledger):
                for at in list(range(len(part)))[:20]:
                    for number in (part[at] - 1, part[at] - 2, -1, -10 ** 39):
                        less = part[:at] + (number,) + part[at + 1:]
                        thing = ledger[:gate] + (less,) + ledger[gate + 1:]
                        self.assertIs(self.told(net, change, thing), False)

    def test_greater_ones(self):
        net = (1, (("10", (0,)), ("01", (1,))))
        self.assertIs(self.told(net, UP, ((1, 0), (1, 0))), True)
        self.assertIs(self.told(net, UP, ((5, 4), (5, 4, 3, 2, 1, 0))), True)
        self.assertIs(self.told(net, UP, ((5, 1), (9, 8, 7, 6, 3, 2))), True)
        self.assertIs(self.told(net, UP, ((2, 0), (2, 1, 0))), True)
        self.assertIs(self.told(net, UP, ((1, 0), (10 ** 39, 10 ** 38))), True)
        self.assertIs(self.told((1, net[1][:1]), UP, ((10 ** 40 - 1, 10 ** 40 - 2),)), True)

    def test_an_ins_number_is_that_of_this_very_ledger(self):
        net = (1, (("10", (0,)), ("01", (1,))))
        for thing in (((5, 4), (1, 0)), ((2, 0), (1, 0)), ((1, 0), (2, 1, 0)), ((2, 1), (1, 0, 0)), ((2, 1), (2, 0, 1)),
                      ((0, 0), (1, 0)), ((0, 0), (0,)), ((1, 1), (1, 0)), ((10 ** 39, 0), (1, 0)), ((3, 3), (3, 2, 1)),
                      ((5, 1), (9, 9, 8, 7, 6, 5))):
            self.assertIs(self.told(net, UP, thing), False)

    def test_shapes(self):
        ledger = ledger_of(self.NET, self.CHANGE)
        self.assertIs(self.told(self.NET, self.CHANGE, ledger), True)
        one, two, three = ledger
        bad = [
            (), (one,), (one, two), (one, two, three, three), (one, two, three, ()), (two, one, three),
            (one, three, two), (one, two, ()), (one, (), three), ((), two, three), (one, two, three[:-1]),
            (one, two, three + (0,)), (one[:-1], two, three), (one + (0,), two, three), list(ledger),
            [list(part) for part in ledger], tuple(map(list, ledger)), (one, list(two), three), (one, two, None),
            (one, two, "210"), (one, two, 0), (one, two, {0: 1}), (one, two, (three,)), {0: one, 1: two, 2: three},
            (one, two, tuple(map(str, three))), (one, two, three[:-1] + (None,)), (one, two, three[:-1] + (False,)),
            (one, two, (True,) * len(three)), (one, two, three[:-1] + ((),)), (one, two, three[:-1] + (-1,)),
            one + two + three, (ledger,), (one, two, tuple([3] * 19000)), (tuple([2] * 19000), two, three),
        ]
        for thing in bad:
            self.assertIs(self.told(self.NET, self.CHANGE, thing), False)

    def test_truths_for_numbers(self):
        net = (1, (("10", (0,)),))
        for thing in (((True, False),), ((True, 0),), ((1, False),)):
            self.assertIs(self.told(net, UP, thing), False)
        self.assertIs(self.told(net, UP, ((1, 0),)), True)
        self.assertIs(self.told(net, ((1,), (1,)), ((False,),)), False)

    def test_of_anything(self):
        for net in (self.NET, (2, self.NET[1][:1])):
            for thing in odd_things():
                self.assertIs(self.told(net, self.CHANGE, thing), False)
                self.assertIs(self.told(net, self.CHANGE, (thing,) * len(net[1])), False)
                self.assertIs(self.told(net, self.CHANGE, ((thing,) * 4,) * len(net[1])), False)

    def test_against_a_walk(self):
        chance = random.Random(94)
        found = {True: 0, False: 0}
        for net, delays, change in made_runs(95, 300, 3):
            try:
                parts = list(ledger_of(net, change))
            except TooMany:
                continue
            for turn in range(4):
                gate = chance.randrange(len(parts))
                more = [number + chance.choice((0, 0, 0, 1, 2)) for number in parts[gate]]
                more[0] = parts[gate][0] if chance.randrange(3) else more[0]
                thing = tuple(parts[:gate] + [tuple(more)] + parts[gate + 1:])
                holds = walked_holds(net, change, thing)
                self.assertIs(self.told(net, change, thing), holds)
                found[holds] += 1
        self.assertGreater(min(found.values()), 50)

    def test_no_delays_show_more_than_a_ledger_that_is_let_by(self):
        chance = random.Random(96)
        done = 0
        for net, delays, change in made_runs(97, 200, 3):
            thing = drawn_ledger(chance, net, change)
            if not ledger_holds(net, change, thing):
                continue
            done += 1
            for most in (0, 1, 3, 20):
                waves = waves_of(net, made_delays(chance, net, most), change)[net[0]:]
                for part, wave in zip(thing, waves):
                    self.assertLessEqual(len(wave[1]), part[0])
        self.assertGreater(done, 50)


def drawn_ledger(chance, net, change):
    """A ledger of the right lengths: each part the least one by the numbers ahead, now and then raised."""
    firsts = settled_by(net, change[0])
    numbers = [int(before != after) for before, after in zip(*change)]
    parts = []
    for table, ins in net[1]:
        part = walked_part(table, [firsts[wire] for wire in ins], [numbers[wire] for wire in ins])
        if chance.randrange(2):
            part = (part[0] + chance.randrange(2),) + part[1:]
        if chance.randrange(3) == 0:
            part = tuple(number + 1 for number in part)
        if chance.randrange(12) == 0:
            part = tuple(max(0, number - 1) for number in part)
        parts.append(part)
        numbers.append(part[0])
    return tuple(parts)


if __name__ == "__main__":
    unittest.main()
