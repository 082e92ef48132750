import itertools
import random
import unittest

from glitchnet.errors import TooMany
from glitchnet.nets import settled
from glitchnet.nettexts import read_net, show_net
from glitchnet.networds import is_formula, words_of
from glitchnet.pairing import gate_word
from glitchnet.running import waves_of
from glitchnet.wording import is_word, lets
from tests.helpers import (
    XOR, XOR3, chain_of_three, check_kept, great_net, in_a_moment, made_delays, made_nets, made_runs, odd_things)


class WordsOfTest(unittest.TestCase):
    def check_words(self, net, change, words):
        """Input words as told, gate words each by the words of its ins."""
        self.assertIs(words.__class__, tuple)
        self.assertTrue(all(is_word(word) for word in words))
        self.assertEqual(len(words), net[0] + len(net[1]))
        for wire in range(net[0]):
            self.assertEqual(words[wire], (change[0][wire], change[1][wire], False))
        for wire, (table, ins) in enumerate(net[1], net[0]):
            self.assertEqual(words[wire], gate_word(table, tuple(words[place] for place in ins)))
        self.assertEqual(tuple(word[0] for word in words), settled(net, change[0]))
        self.assertEqual(tuple(word[1] for word in words), settled(net, change[1]))

    def test_some_words(self):
        net = (2, (("10", (0,)), ("0001", (0, 2)), ("0111", (3, 1)), ("0001", (0, 1))))
        self.assertEqual(words_of(net, ((0, 0), (1, 0))), (
            (0, 1, False), (0, 0, False), (1, 0, False), (0, 0, True), (0, 0, True), (0, 0, False)))
        self.assertEqual(words_of(net, ((0, 1), (1, 1))), (
            (0, 1, False), (1, 1, False), (1, 0, False), (0, 0, True), (1, 1, False), (0, 1, False)))

    def test_made_nets(self):
        for net, delays, change in made_runs(41, 150, 12):
            self.check_words(net, change, check_kept(self, words_of, net, change))

    def test_each_wave_is_one_that_its_word_lets(self):
        chance = random.Random(42)
        for net, delays, change in made_runs(43, 120, 12):
            words = words_of(net, change)
            for most in (0, 1, 3, 50, 10 ** 30):
                try:
                    waves = waves_of(net, made_delays(chance, net, most), change)
                except TooMany:
                    continue
                for word, wave in zip(words, waves):
                    self.assertTrue(lets(word, wave))

    def test_all_changes_of_a_net(self):
        net = made_nets(44, 1, 8)[0]
        for change in itertools.product(itertools.product((0, 1), repeat=net[0]), repeat=2):
            self.check_words(net, change, words_of(net, change))

    def test_forty_gates_read_several_times_end_in_a_moment(self):
        for table in (XOR3, "00010111", "10000000"):
            net = chain_of_three(40, table)
            words = in_a_moment(lambda: words_of(net, ((0,), (1,))))
            self.check_words(net, ((0,), (1,)), words)
        net = (1, tuple((XOR, (max(wire - 1, 0), wire)) for wire in range(40)))
        self.check_words(net, ((0,), (1,)), in_a_moment(lambda: words_of(net, ((0,), (1,)))))

    def test_great_nets_that_were_read(self):
        for count in (41, 200, 430):
            net = read_net(show_net(great_net(count)))
            for change in (((0, 0), (1, 1)), ((0, 1), (1, 0)), ((1, 1), (1, 1))):
                self.check_words(net, change, in_a_moment(lambda: words_of(net, change)))


class IsFormulaTest(unittest.TestCase):
    def told(self, net):
        told = check_kept(self, is_formula, net)
        self.assertIsInstance(told, bool)
        return told

    def test_formulas(self):
        good = [
            (1, (("10", (0,)),)),
            (1, ((XOR3, (0, 0, 0)), (XOR, (0, 0)), ("10", (0,)))),
            (2, (("10", (0,)), ("0001", (1, 2)), ("0111", (0, 3)))),
            (2, (("10", (0,)), ("10", (0,)), ("0001", (2, 3)), ("10", (1,)))),
            (1, tuple(("10", (wire,)) for wire in range(1000))),
        ]
        for net in good:
            self.assertIs(self.told(net), True)

    def test_gates_read_twice(self):
        bad = [
            (1, (("10", (0,)), (XOR, (1, 1)))),
            (1, (("10", (0,)), (XOR3, (1, 0, 1)))),
            (1, (("10", (0,)), ("10", (1,)), ("10", (1,)))),
            (1, (("10", (0,)), ("10", (1,)), ("0001", (1, 2)))),
            (6, (("10", (5,)), ("0001", (5, 6)), ("0001", (6, 7)))),
            (1, tuple(("10", (wire,)) for wire in range(1000)) + (("10", (999,)),)),
        ]
        for net in bad:
            self.assertIs(self.told(net), False)

    def test_made_nets(self):
        found = set()
        for net in made_nets(45, 200, 4):
            read = [wire for table, ins in net[1] for wire in ins if wire >= net[0]]
            self.assertIs(self.told(net), len(read) == len(set(read)))
            found.add(self.told(net))
        self.assertEqual(found, {True, False})

    def test_what_is_no_net_is_no_formula(self):
        for thing in odd_things():
            self.assertIs(self.told(thing), False)


if __name__ == "__main__":
    unittest.main()
