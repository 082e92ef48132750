import itertools
import random
import unittest

from glitchnet.errors import NetError, NoText
from glitchnet.formtexts import read_form, show_form
from tests.helpers import (
    check_kept, depth_of, in_a_moment, inner_parts, made_form, made_forms, odd_things, same_parts, tower_of)
from tests.test_forms import small_forms, walked_form


def words_of_form(form):
    """The words of a form, as the document writes them."""
    if form[0] == "in":
        return ["in", str(form[1])]
    inner = [word for part in inner_parts(form) for word in words_of_form(part)]
    return [form[0]] + (["("] + inner + [")"] if form[0] in ("and", "or") else inner)


def plain_read(many, words):
    """The form of all of some words, by trying what stands ahead; None where there is none."""
    def read(at):
        head = words[at] if at < len(words) else None
        if head in ("one", "nought"):
            return (head,), at + 1
        if head == "in" and words[at + 1:at + 2] in [[str(k)] for k in range(many)]:
            return ("in", int(words[at + 1])), at + 2
        if head == "not":
            part, end = read(at + 1)
            return (part and ("not", part)), end
        if head in ("and", "or") and words[at + 1:at + 2] == ["("]:
            parts, end = [], at + 2
            while words[end:end + 1] != [")"]:
                part, end = read(end)
                if part is None:
                    return None, end
                parts.append(part)
            return ((head, tuple(parts)) if len(parts) in (2, 3, 4) else None), end + 1
        return None, at
    form, end = read(0)
    return form if end == len(words) else None


class FormTextsTest(unittest.TestCase):
    def refused(self, many, text):
        with self.assertRaises(NetError) as held:
            check_kept(self, read_form, many, text)
        self.assertIs(held.exception.__class__, NoText)

    def check_form(self, many, form):
        """A form's text, and back."""
        text = check_kept(self, show_form, form)
        self.assertEqual(text, " ".join(words_of_form(form)))
        told = check_kept(self, read_form, many, text)
        self.assertTrue(same_parts(told, form))
        return text

    def check_text(self, many, text):
        """What a text writes, or that it is refused."""
        form = plain_read(many, text.split(" "))
        if form is None:
            self.refused(many, text)
            return 0
        self.assertTrue(walked_form(many, form))
        self.assertTrue(same_parts(read_form(many, text), form))
        self.assertEqual(show_form(form), text)
        return 1

    def test_some_texts(self):
        for form, text in ((("in", 0), "in 0"), (("in", 5), "in 5"), (("one",), "one"), (("nought",), "nought"),
                           (("not", ("in", 3)), "not in 3"), (("not", ("not", ("one",))), "not not one"),
                           (("and", (("in", 0), ("in", 1))), "and ( in 0 in 1 )"),
                           (("or", (("one",), ("not", ("in", 2)), ("nought",))), "or ( one not in 2 nought )"),
                           (("not", ("or", (("and", (("in", 0),) * 4), ("in", 1)))),
                            "not or ( and ( in 0 in 0 in 0 in 0 ) in 1 )")):
            self.assertEqual(show_form(form), text)
            self.assertEqual(self.check_form(6, form), text)

    def test_small_forms(self):
        for many in (1, 2, 3):
            for form in small_forms(many):
                self.check_form(many, form)

    def test_drawn_forms(self):
        for many, form in made_forms(311, 200):
            self.check_form(many, form)

    def test_more_than_forty_parts_and_ten_within_one_another(self):
        chance = random.Random(312)
        for parts in (41, 100, 500):
            form = made_form(chance, 6, parts)
            if depth_of(form) <= 30:
                self.check_form(6, form)
        for deep in (10, 11, 20, 30):
            self.check_form(6, tower_of(deep))
            self.check_form(6, ("not", tower_of(deep - 1)))

    def test_inputs_beyond(self):
        for many in range(1, 7):
            for k in range(12):
                for text in ("in %d", "not in %d", "and ( one in %d )"):
                    self.assertEqual(self.check_text(many, text % k), int(k < many))

    def test_all_texts_of_few_words(self):
        words = ["in", "0", "1", "one", "not", "and", "or", "(", ")", "nought"]
        found = 0
        for count in range(1, 5):
            for some in itertools.product(words, repeat=count):
                found += self.check_text(2, " ".join(some))
        self.assertEqual(found, 14)

    def test_one_word_put_otherwise(self):
        chance = random.Random(313)
        others = ["in", "0", "1", "2", "one", "not", "and", "or", "(", ")", "nought", "", "00", "01", "in0", "xor",
                  "-1",
                  "+1", "In", "\n", "0\n", "((", "()"]
        found = {0: 0, 1: 0}
        for many, form in made_forms(314, 120, 3, 12):
            words = words_of_form(form)
            for turn in range(15):
                at = chance.randrange(len(words))
                kind = chance.randrange(4)
                if kind == 0:
                    new = words[:at] + words[at + 1:]
                elif kind == 1:
                    new = words[:at] + [chance.choice(others)] + words[at:]
                elif kind == 2:
                    new = words[:at] + [chance.choice(others)] + words[at + 1:]
                else:
                    new = words[:at] + words[at:][::-1]
                found[self.check_text(many, " ".join(new))] += 1
        self.assertGreater(min(found.values()), 50)

    def test_blanks_and_line_ends(self):
        for text in ("", " ", "in  0", " in 0", "in 0 ", "in 0\n", "\nin 0", "in\n0", "in\t0", "and (in 0 in 1)", "in0",
                     "and ( in 0 in 1)", "and( in 0 in 1 )", "and ( in 0  in 1 )", "and  ( in 0 in 1 )", "not  one",
                     "and ( in 0 in 1 ) ", "and ( in 0 in 1 )\n", " one", "one ", "one\n", "not one\n",
                     "and ( in 0, in 1 )"):
            self.refused(6, text)

    def test_brackets_and_parts(self):
        leaves = ["in 0"] * 6
        for head in ("and", "or"):
            for count in range(7):
                text = " ".join([head, "("] + leaves[:count] + [")"])
                self.assertEqual(self.check_text(1, text), int(count in (2, 3, 4)))
            for text in (head, head + " (", head + " )", head + " ( )", head + " ( in 0 in 0", head + " in 0 in 0 )",
                         head + " in 0 in 0", head + " ( in 0 in 0 ) )", head + " ( ( in 0 in 0 ) )",
                         head + " ( ( in 0 in 0 )",
                         "( " + head + " in 0 in 0 )", head + " ) in 0 in 0 (", head + " ( in 0 ) in 0", "( in 0 )",
                         head + " ( in 0 ( in 0 in 0 ) )", "( " + head + " ( in 0 in 0 ) )",
                         head + " ( in 0 in 0 ) in 0",
                         "not ( in 0 )", "not ( in 0 in 0 )", head + " ( in in )", "not", "not not", "in", "in in 0"):
                self.refused(1, text)

    def test_numbers(self):
        for word in ("00", "01", "-0", "-1", "+0", "0.0", "1e0", "0x0", "a", "k", "0" * 50, "1" * 50, "9" * 5900,
                     "0_0", "",
                     "10", "6", "1" * 40, "1" * 41, "True", "None"):
            self.refused(6, "in " + word)
            self.refused(6, "not in " + word)
        for word in ("0", "1", "5"):
            self.refused(6, word)
            self.refused(6, "not " + word)
            self.refused(6, "and ( %s in 0 )" % word)
            self.refused(6, "one " + word)

    def test_words_that_are_none(self):
        for text in ("zero", "two", "ONE", "One", "xor ( in 0 in 1 )", "nand ( in 0 in 1 )", "AND ( in 0 in 1 )",
                     "inn 0",
                     "input 0", "no in 0", "true", "~", "in ~", "and { in 0 in 1 }", "and [ in 0 in 1 ]", "one one",
                     "one nought", "in 0 in 1", "not one one", "~" * 6000, "in " * 2000, "( " * 3000, ") " * 3000):
            self.refused(6, text)

    def test_of_anything(self):
        for thing in odd_things():
            self.refused(6, thing)
        for form in (("in", 0), ["in", 0], ("one",), ["one"], {"one": 1}, b"one", b"in 0"):
            self.refused(6, form)

    def test_long_texts_end_in_a_moment(self):
        wide = ("in", 5)
        for level in range(8):
            wide = ("or", (wide, wide))
        text = in_a_moment(lambda: self.check_form(6, wide))
        self.assertGreater(len(text), 3000)
        for text in ("and ( " * 1000, "not " * 1400 + "in", "and ( in 0 " * 500 + "in 0 " + ") " * 499,
                     "or ( one " * 600):
            in_a_moment(lambda: self.refused(6, text))


if __name__ == "__main__":
    unittest.main()
