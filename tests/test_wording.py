import itertools
import unittest

from glitchnet.errors import NetError
from glitchnet.wording import is_word, lets, read_word, show_word, word_of
from tests.helpers import check_kept, odd_things, same_parts

WORDS = {
    "0": (0, 0, False), "1": (1, 1, False), "up": (0, 1, False), "down": (1, 0, False),
    "0!": (0, 0, True), "1!": (1, 1, True), "up!": (0, 1, True), "down!": (1, 0, True),
}
TIMES = [(), (0,), (7,), (0, 1), (3, 10 ** 30), (0, 1, 2), (1, 2, 5, 9), tuple(range(199)), tuple(range(200)),
         tuple(range(5, 606, 2))]


class IsWordTest(unittest.TestCase):
    def told(self, thing):
        told = check_kept(self, is_word, thing)
        self.assertIsInstance(told, bool)
        return told

    def test_words(self):
        for word in WORDS.values():
            self.assertIs(self.told(word), True)
            self.assertIs(self.told(list(word)), False)
            self.assertIs(self.told(word[:2]), False)
            self.assertIs(self.told(word[1:]), False)
            self.assertIs(self.told(word + (False,)), False)
            self.assertIs(self.told((word,)), False)
            self.assertIs(self.told(dict(enumerate(word))), False)

    def test_worths_and_truths(self):
        for worth in (2, -1, True, False, None, "0", (0,), [0], {}, 10 ** 39):
            self.assertIs(self.told((worth, 0, False)), False)
            self.assertIs(self.told((0, worth, True)), False)
        for fro in (0, 1, None, "", "!", "True", (), (True,), [], {}, 10 ** 39):
            self.assertIs(self.told((0, 1, fro)), False)

    def test_of_anything(self):
        for thing in odd_things():
            self.assertIs(self.told(thing), False)
            self.assertIs(self.told((0, 1, thing)), isinstance(thing, bool))
        for text in WORDS:
            self.assertIs(self.told(text), False)


class LetsTest(unittest.TestCase):
    def test_each_wave_against_all_words(self):
        for first, times in itertools.product((0, 1), TIMES):
            wave = (first, times)
            last = (first + len(times)) % 2
            for word in WORDS.values():
                most = 10 ** 6 if word[2] else int(word[0] != word[1])
                expected = word[:2] == (first, last) and len(times) <= most
                told = check_kept(self, lets, word, wave)
                self.assertIs(told, expected)

    def test_word_of(self):
        for first, times in itertools.product((0, 1), TIMES):
            wave = (first, times)
            letting = [word for word in WORDS.values() if lets(word, wave)]
            told = check_kept(self, word_of, wave)
            self.assertTrue(same_parts(told, min(letting)))
            self.assertTrue(is_word(told))

    def test_some_words(self):
        self.assertEqual(word_of((0, ())), (0, 0, False))
        self.assertEqual(word_of((1, (4,))), (1, 0, False))
        self.assertEqual(word_of((1, (4, 5))), (1, 1, True))
        self.assertEqual(word_of((0, (4, 5, 6))), (0, 1, True))


class WordTextTest(unittest.TestCase):
    def refused(self, thing):
        def name_of_refusal(text):
            try:
                read_word(text)
            except NetError as refusal:
                return refusal.__class__.__name__
            return "told"
        self.assertEqual(check_kept(self, name_of_refusal, thing), "NoText")

    def test_all_eight(self):
        for text, word in WORDS.items():
            self.assertEqual(check_kept(self, show_word, word), text)
            self.assertTrue(same_parts(check_kept(self, read_word, text), word))

    def test_signs_put_in_or_taken_out(self):
        for text in WORDS:
            for place in range(len(text) + 1):
                for sign in " \n\t!01uUpPdnw-+?":
                    for other in (text[:place] + sign + text[place:], text[:place] + sign + text[place + 1:]):
                        if other not in WORDS:
                            self.refused(other)
                if text[:place] + text[place + 1:] not in WORDS:
                    self.refused(text[:place] + text[place + 1:])

    def test_other_texts(self):
        for text in ("", "!", "!!", " ", "\n", "0 ", " 0", "0\n", "\n0", "00", "01", "2", "-0", "+1", "Up", "UP", "Down",
                     "dOwn", "up!!", "!up", "up !", "up! ", "up!\n", "0!!", "!0", "u", "updown", "up down", "down!!",
                     "True", "0, 1, False", "(0, 0, False)", "up!" * 2000, "0" * 6000):
            self.refused(text)

    def test_of_anything(self):
        for thing in odd_things():
            if not (isinstance(thing, str) and thing in WORDS):
                self.refused(thing)
        for word in WORDS.values():
            self.refused(word)
        for thing in (["up"], ("up",), {"up": 1}, [["0"]], ("0", "!")):
            self.refused(thing)


if __name__ == "__main__":
    unittest.main()
