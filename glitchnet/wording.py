"""Words: what a wave begins with, ends with, and whether it may go to and fro."""

from glitchnet.errors import NoText
from glitchnet.kinds import is_worth

# By the number that first and last write in twos.
NAMES = ("0", "up", "down", "1")


def is_word(thing):
    """Whether it is a word."""
    if not isinstance(thing, tuple) or len(thing) != 3:
        return False
    first, last, fro = thing
    return is_worth(first) and is_worth(last) and isinstance(fro, bool)


def word_of(wave):
    """The word that lets a wave, without fro where it may be."""
    first, times = wave
    return first, first ^ (len(times) & 1), len(times) > 1


def lets(word, wave):
    """Whether a word lets a wave."""
    first, last, fro = word_of(wave)
    return word[0] == first and word[1] == last and (word[2] or not fro)


def show_word(word):
    """The text of a word."""
    first, last, fro = word
    name = NAMES[2 * first + last]
    return name + "!" if fro else name


def read_word(text):
    """The word that a text writes; NoText of anything else."""
    if not isinstance(text, str):
        raise NoText("a word is read from a text")
    fro = text.endswith("!")
    name = text[:-1] if fro else text
    if name not in NAMES:
        raise NoText("this text writes no word")
    number = NAMES.index(name)
    return number // 2, number & 1, fro
