import itertools
import unittest

from glitchnet.errors import NetError, NoText
from glitchnet.nets import is_change, is_net, rows_of, settled
from glitchnet.nettexts import read_change, read_net, show_change, show_net
from tests.helpers import chain_of_three, check_kept, great_net, in_a_moment, is_plain, made_nets, odd_things


class Refusing(unittest.TestCase):
    def refused(self, asked, *things):
        """Refused with NoText itself, again and again, and nothing handed in is changed."""
        def name_of_refusal(*parts):
            try:
                asked(*parts)
            except NetError as refusal:
                return refusal.__class__.__name__
            return "told"
        self.assertEqual(check_kept(self, name_of_refusal, *things), "NoText")


class ShowNetTest(unittest.TestCase):
    def test_texts(self):
        self.assertEqual(show_net((1, (("10", (0,)),))), "inputs 1\n10 0")
        net = (6, (("0001", (0, 5)), ("01101001", (6, 6, 1)), ("01", (7,))))
        self.assertEqual(show_net(net), "inputs 6\n0001 0 5\n01101001 6 6 1\n01 7")

    def test_numbers_of_several_figures(self):
        last = show_net(chain_of_three(200)).split("\n")[-1]
        self.assertEqual(last, "00010111 199 199 199")

    def test_unlike_nets_have_unlike_texts(self):
        nets = set(made_nets(3, 300, 3))
        self.assertEqual(len({show_net(net) for net in nets}), len(nets))


class ReadNetTest(Refusing):
    def test_what_is_written_is_read(self):
        nets = made_nets(4, 100) + made_nets(5, 20, 60) + [chain_of_three(41), chain_of_three(250), great_net(430)]
        for net in nets:
            text = check_kept(self, show_net, net)
            told = check_kept(self, read_net, text)
            self.assertEqual(told, net)
            self.assertTrue(is_plain(told))
            self.assertEqual(show_net(told), text)

    def test_six_thousand_signs(self):
        text = "inputs 1" + "\n10 0" * 1198
        self.assertLessEqual(len(text), 6000)
        net = in_a_moment(lambda: read_net(text))
        self.assertEqual(len(net[1]), 1198)
        self.assertTrue(is_net(net))
        self.assertEqual(settled(net, (0,)), (0,) + (1,) * 1198)
        self.assertEqual(show_net(net), text)

    def test_what_was_told_is_read_however_great(self):
        text = show_net(great_net(3000))
        self.assertEqual(in_a_moment(lambda: read_net(text)), great_net(3000))

    def test_blanks(self):
        lines = ["inputs 2", "0001 0 1", "10 2"]
        for at in range(3):
            for place in range(len(lines[at]) + 1):
                bad = list(lines)
                bad[at] = lines[at][:place] + " " + lines[at][place:]
                self.refused(read_net, "\n".join(bad))
            bad = list(lines)
            bad[at] = lines[at].replace(" ", "")
            self.refused(read_net, "\n".join(bad))
            bad[at] = lines[at].replace(" ", "\t")
            self.refused(read_net, "\n".join(bad))

    def test_line_ends(self):
        text = "inputs 2\n0001 0 1\n10 2"
        for place in range(len(text) + 1):
            self.refused(read_net, text[:place] + "\n" + text[place:])
        for bad in (text + "\n", "\n" + text, text.replace("\n", ""), text.replace("\n", " "),
                    text.replace("\n", "\r\n"), text.replace("\n", "\r"), "inputs 2 0001 0 1\n10 2"):
            self.refused(read_net, bad)

    def test_signs_put_in_or_taken_out(self):
        text = "inputs 2\n0001 0 1\n01101001 2 0 1\n10 3"
        for place in range(len(text) + 1):
            for sign in " \n-+_.0129axi!~":
                self.check_read_back(text[:place] + sign + text[place:])
                self.check_read_back(text[:place] + sign + text[place + 1:])
            self.check_read_back(text[:place] + text[place + 1:])

    def check_read_back(self, text):
        """Either refused, or a net that is written just so."""
        try:
            net = read_net(text)
        except NoText:
            return
        self.assertTrue(is_net(net))
        self.assertEqual(show_net(net), text)

    def test_numbers(self):
        for word in ("00", "01", "-0", "-1", "+0", "+1", "1_0", "0_1", "_1", "0x1", "1.0", "1e0", "1.", "", "one", "(0)",
                     "1" * 6000, "0" * 5000, "1" + "0" * 39, "9" * 41, "4", "2"):
            self.refused(read_net, "inputs 2\n10 " + word)
            self.refused(read_net, "inputs 2\n0001 0 " + word)
        for word in ("0", "7", "8", "00", "01", "+1", "-1", "1_", "1.0", "", "1" * 5980, "10", "06", "six"):
            self.refused(read_net, "inputs " + word + "\n10 0")
        for sign in "\u00b2\u0661\uff11":
            self.refused(read_net, "inputs " + sign + "\n10 0")
            self.refused(read_net, "inputs 2\n10 " + sign)

    def test_tables(self):
        for table in ("", "0", "1", "100", "0001", "12", "2", "00000000", "1O", "-1", "ab", "0" * 5000):
            self.refused(read_net, "inputs 2\n" + table + " 0")
        self.refused(read_net, "inputs 2\n10 0 1")
        self.refused(read_net, "inputs 2\n0001 0 1 1")
        self.refused(read_net, "inputs 2\n" + "0" * 16 + " 0 0 0 0")
        self.refused(read_net, "inputs 2\n10")
        self.refused(read_net, "inputs 2\n1")

    def test_wires(self):
        self.assertEqual(read_net("inputs 2\n10 1\n10 2"), (2, (("10", (1,)), ("10", (2,)))))
        self.refused(read_net, "inputs 2\n10 2\n10 2")
        self.refused(read_net, "inputs 2\n10 1\n10 3")

    def test_heads(self):
        for head in ("", "inputs", "inputs ", "input 2", "Inputs 2", "INPUTS 2", "inputs  2", "inputs 2 2", "2",
                     "2 inputs", "inputs: 2", "net 2"):
            self.refused(read_net, head + "\n10 0")
        for text in ("", "inputs 2", "inputs 2\n", "\n", " ", "10 0", "\ninputs 2\n10 0", "10 0\ninputs 2"):
            self.refused(read_net, text)

    def test_of_anything(self):
        for thing in odd_things():
            if thing != "inputs 1\n10 0":
                self.refused(read_net, thing)
        net = (1, (("10", (0,)),))
        for thing in (net, list(net), ("inputs 1", "10 0"), ["inputs 1\n10 0"], {"inputs 1\n10 0": 1}):
            self.refused(read_net, thing)


class ChangeTextTest(Refusing):
    def test_texts(self):
        self.assertEqual(show_change(((0,), (1,))), "0 to 1")
        self.assertEqual(show_change(((0, 1, 1), (1, 0, 1))), "011 to 101")
        self.assertEqual(read_change(3, "011 to 101"), ((0, 1, 1), (1, 0, 1)))

    def test_what_is_written_is_read(self):
        for many in range(1, 7):
            texts = set()
            for change in itertools.product(rows_of(many), repeat=2):
                text = show_change(change)
                told = read_change(many, text)
                self.assertEqual(told, change)
                self.assertTrue(is_change(many, told))
                texts.add(text)
            self.assertEqual(len(texts), 4 ** many)

    def test_rows_of_another_number_of_inputs(self):
        for many in range(1, 7):
            for a, b in itertools.product(range(9), repeat=2):
                text = "0" * a + " to " + "1" * b
                if a == many and b == many:
                    self.assertEqual(read_change(many, text), ((0,) * many, (1,) * many))
                else:
                    self.refused(read_change, many, text)

    def test_signs_put_in_or_taken_out(self):
        text = "01 to 10"
        for place in range(len(text) + 1):
            for sign in " \n\t-+_2tTo.":
                self.refused(read_change, 2, text[:place] + sign + text[place:])
            if place < len(text):
                self.refused(read_change, 2, text[:place] + text[place + 1:])

    def test_other_texts(self):
        for text in ("", " to ", "to", "01", "01 10", "01to10", "01  to 10", "01 to  10", "01 To 10", "01 TO 10",
                     "0 1 to 1 0", "02 to 10", "01 to 1x", "01 to 10 to 01", "01 to 10\n", "\n01 to 10", "01\nto\n10",
                     "01 to 10 ", " 01 to 10", "-1 to 10", "+1 to 10", "01 from 10", "0" * 5000, "01 to " + "1" * 5000,
                     "0\u0661 to 10"):
            self.refused(read_change, 2, text)

    def test_of_anything(self):
        for many in range(1, 7):
            for thing in odd_things():
                if not (many == 2 and thing == "01 to 10"):
                    self.refused(read_change, many, thing)
        for thing in (((0,), (1,)), ("0 to 1",), ["0 to 1"], {"0 to 1": 0}, ("0", "1"), ["0", "1"]):
            self.refused(read_change, 1, thing)


if __name__ == "__main__":
    unittest.main()
