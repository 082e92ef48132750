import itertools
import random
import unittest

from glitchnet.pairing import gate_word, pairs_of
from glitchnet.running import worth_at
from glitchnet.wording import is_word, lets, word_of
from tests.helpers import XOR, check_kept, is_numbers, tables_of

WORDS = [(first, last, fro) for first in (0, 1) for last in (0, 1) for fro in (False, True)]


def waves_within(most):
    """All waves with times below the most."""
    return [(first, times) for first in (0, 1) for size in range(most + 1)
            for times in itertools.combinations(range(most), size)]


def walked_words(table, ins, most):
    """The words of a gate by the words of its ins, by a walk through all waves with times below the most."""
    waves = [(word_of(wave), [worth_at(wave, time) for time in range(-1, most)]) for wave in waves_within(most)]
    shown = {}
    for chosen in itertools.product(waves, repeat=ins):
        row = [int(table[int("".join(map(str, worths)), 2)]) for worths in zip(*[worths for word, worths in chosen])]
        turns = sum(one != other for one, other in zip(row, row[1:]))
        words = tuple(word for word, worths in chosen)
        shown[words] = shown.get(words, False) or turns > 1
    told = {}
    for words in itertools.product(WORDS, repeat=ins):
        firsts, lasts = "".join(str(word[0]) for word in words), "".join(str(word[1]) for word in words)
        # A word with fro lets also what the same word without fro lets.
        lesser = itertools.product(*[{word, (word[0], word[1], False)} for word in words])
        fro = any(shown.get(choice, False) for choice in lesser)
        told[words] = (int(table[int(firsts, 2)]), int(table[int(lasts, 2)]), fro)
    return told


class PairsOfTest(unittest.TestCase):
    def test_all_eight(self):
        every = ((0, 0), (0, 1), (1, 0), (1, 1))
        expected = {
            (0, 0, False): ((0, 0),), (1, 1, False): ((1, 1),),
            (0, 1, False): ((0, 0), (0, 1), (1, 1)), (1, 0, False): ((0, 0), (1, 0), (1, 1)),
        }
        for word in WORDS:
            told = check_kept(self, pairs_of, word)
            self.assertEqual(told, expected.get(word, every))
            self.assertTrue(is_numbers(told))
            self.assertEqual(list(told), sorted(set(told)))

    def test_as_waves_have_them(self):
        for word in WORDS:
            pairs = set()
            for wave in waves_within(5):
                if lets(word, wave):
                    for p, q in itertools.combinations_with_replacement(range(-1, 6), 2):
                        pairs.add((worth_at(wave, p), worth_at(wave, q)))
            self.assertEqual(pairs_of(word), tuple(sorted(pairs)))


class GateWordTest(unittest.TestCase):
    def check_table(self, table, ins, most):
        for words, expected in walked_words(table, ins, most).items():
            told = gate_word(table, words)
            self.assertTrue(is_word(told))
            self.assertEqual(told, expected, (table, words))

    def test_tables_of_one_in(self):
        for table in tables_of(1):
            self.check_table(table, 1, 6)

    def test_tables_of_two_ins(self):
        for table in tables_of(2):
            self.check_table(table, 2, 5)

    def test_tables_of_three_ins(self):
        chosen = ["00000001", "01111111", "01101001", "00010111", "00011011", "00100100", "11111111"]
        chosen += random.Random(31).sample(tables_of(3), 40)
        for table in chosen:
            self.check_table(table, 3, 3)

    def test_some_gates(self):
        up, down = (0, 1, False), (1, 0, False)
        self.assertEqual(gate_word("0001", (up, down)), (0, 0, True))
        self.assertEqual(gate_word("0111", (up, down)), (1, 1, True))
        self.assertEqual(gate_word("0001", (up, up)), (0, 1, False))
        self.assertEqual(gate_word("10", (up,)), (1, 0, False))
        self.assertEqual(gate_word("10", ((0, 1, True),)), (1, 0, True))
        self.assertEqual(gate_word(XOR, (up, up)), (0, 0, True))
        self.assertEqual(gate_word("0001", ((0, 0, False), (1, 1, True))), (0, 0, False))

    def test_what_is_handed_in_stays(self):
        for words in itertools.product(WORDS, repeat=2):
            self.assertTrue(is_word(check_kept(self, gate_word, "0110", words)))


if __name__ == "__main__":
    unittest.main()
