import itertools
import random
import unittest

from glitchnet.delaying import is_delays
from glitchnet.errors import NetError, NotFormula
from glitchnet.nettexts import read_net, show_net
from glitchnet.networds import words_of
from glitchnet.running import waves_of
from glitchnet.showing import shown
from glitchnet.wording import word_of
from tests.helpers import (
    MAJORITY, XOR, XOR3, below, chain_formula, check_kept, in_a_moment, input_readings, is_numbers, made_change,
    made_formula, made_formulas, made_nets, not_formulas, with_delays)

UP = ((0,), (1,))


class ShownTest(unittest.TestCase):
    def check_wire(self, net, change, wire, words):
        """None just where the word has no fro, else delays of 0, 1 and 2 that show it."""
        told = check_kept(self, shown, net, change, wire)
        if not words[wire][2]:
            self.assertIsNone(told)
            return False
        self.assertTrue(is_numbers(told))
        self.assertTrue(is_delays(net, told))
        for (table, ins), part in zip(net[1], told):
            for read, late in zip(ins, part):
                self.assertIn(late, (0, 1, 2) if read < net[0] else (0,))
        self.assertTrue(word_of(waves_of(net, told, change)[wire])[2])
        return True

    def check_net(self, net, change):
        words = words_of(net, change)
        return sum(self.check_wire(net, change, wire, words) for wire in range(len(words)))

    def test_one_gate(self):
        self.assertEqual(self.check_net((1, ((XOR, (0, 0)),)), UP), 1)
        self.assertEqual(self.check_net((1, ((XOR3, (0, 0, 0)),)), UP), 1)
        self.assertEqual(self.check_net((1, (("0001", (0, 0)),)), UP), 0)
        self.assertEqual(self.check_net((2, (("0001", (0, 1)),)), ((0, 1), (1, 0))), 1)
        self.assertEqual(self.check_net((2, (("0001", (0, 1)),)), ((0, 0), (1, 1))), 0)

    def test_all_changes_of_one_gate(self):
        for many, tables in ((1, ["10", "01", "00", "11"]), (2, [XOR, "0001", "0111", "0100", "1101"]),
                             (3, [XOR3, MAJORITY, "01000000", "00011011"])):
            for table in tables:
                net = (many, ((table, tuple(range(many))),))
                for change in itertools.product(itertools.product((0, 1), repeat=many), repeat=2):
                    self.check_net(net, change)

    def test_made_formulas(self):
        self.assertGreater(sum(self.check_net(net, change) for net, change in made_formulas(61, 250, 8)), 100)
        self.assertGreater(sum(self.check_net(net, change) for net, change in made_formulas(62, 40, 40)), 100)

    def test_none_one_some_and_all_inputs(self):
        chance = random.Random(63)
        for count in (1, 2, 5, 12, 25, 40):
            net = made_formula(chance, 6, count)
            a = tuple(chance.randint(0, 1) for place in range(6))
            for turned in ((), (0,), (5,), (1, 3), (0, 2, 4, 5), range(6)):
                b = tuple(worth ^ (place in turned) for place, worth in enumerate(a))
                found = self.check_net(net, (a, b))
                if not turned:
                    self.assertEqual(found, 0)

    def test_dozens_of_readings_end_in_a_moment(self):
        for table in (XOR3, MAJORITY, "01100110", "00011011"):
            net = chain_formula(40, table)
            self.assertGreater(len(input_readings(net)), 80)
            for change in (((0, 0, 0), (1, 1, 1)), ((0, 1, 0), (1, 0, 1)), ((1, 0, 0), (1, 1, 0))):
                in_a_moment(lambda: self.check_net(net, change))
        self.assertTrue(words_of(chain_formula(40), ((0, 0, 0), (1, 1, 1)))[-1][2])

    def test_formulas_that_were_read(self):
        net = read_net(show_net(chain_formula(300)))
        change = ((0, 0, 0), (1, 1, 0))
        told = in_a_moment(lambda: shown(net, change, 302))
        self.assertTrue(is_delays(net, told))
        self.assertTrue(words_of(net, change)[302][2])

    def test_words_are_exact(self):
        """Of small formulas: fro just where some delays of 0 to 3, tried one by one, show it."""
        tried = 0
        for net, change in made_formulas(64, 400, 4):
            readings = [(gate, place) for gate, place in input_readings(net)
                        if change[0][net[1][gate][1][place]] != change[1][net[1][gate][1][place]]]
            if len(readings) > 4:
                continue
            tried += 1
            fros = set()
            for lates in itertools.product(range(4), repeat=len(readings)):
                waves = waves_of(net, with_delays(net, readings, lates), change)
                fros |= {wire for wire, wave in enumerate(waves) if len(wave[1]) > 1}
            self.assertEqual(fros, {wire for wire, word in enumerate(words_of(net, change)) if word[2]})
        self.assertGreater(tried, 100)

    def test_an_input_is_never_shown(self):
        for net, change in made_formulas(65, 30):
            for wire in range(net[0]):
                self.assertIsNone(shown(net, change, wire))


class NotFormulaTest(unittest.TestCase):
    def check_refused(self, net, change):
        for wire in range(net[0] + len(net[1])):
            with self.assertRaises(NetError) as held:
                shown(net, change, wire)
            self.assertIs(held.exception.__class__, NotFormula)

    def test_whichever_the_wire_and_its_word(self):
        for net in not_formulas():
            for a in ((0,) * net[0], (1,) * net[0]):
                self.check_refused(net, (a, a))
                self.check_refused(net, (a, tuple(1 - worth for worth in a)))

    def test_made_nets(self):
        chance = random.Random(66)
        found = 0
        for net in made_nets(67, 60, 6):
            read = [wire for table, ins in net[1] for wire in ins if wire >= net[0]]
            if len(read) > len(set(read)):
                found += 1
                self.check_refused(net, made_change(chance, net[0]))
        self.assertGreater(found, 10)

    def test_also_of_a_wire_below_which_all_is_read_once(self):
        net = (1, ((XOR, (0, 0)), ("10", (0,)), (XOR, (2, 2))))
        self.assertEqual(below(net, 1), {0, 1})
        self.check_refused(net, UP)


if __name__ == "__main__":
    unittest.main()
