import random
import unittest

from glitchnet.counting import greatest
from glitchnet.covers import judged
from glitchnet.desk import Desk
from glitchnet.errors import NetError, NoRow, NotFormula, TooMany
from glitchnet.formnets import form_word
from glitchnet.formtexts import show_form
from glitchnet.leasts import least_free
from glitchnet.mending import mended, neighbours
from glitchnet.nettexts import show_change, show_net
from glitchnet.networds import is_formula, words_of
from glitchnet.running import waves_of
from glitchnet.showing import shown
from glitchnet.wording import show_word
from tests.helpers import (
    check_kept, counted_net, doubling_net, great_net, in_a_moment, made_change,
    made_changes, made_covers, made_delays, made_form, made_formulas, made_forms, made_nets, made_wishes, not_formulas,
    odd_things, tower_of, within_ten)

FLASH = "inputs 1\n10 0\n0001 0 1"


def desk_with(text):
    desk = Desk()
    desk.say("net " + text)
    return desk


def show_delays(delays):
    return " ".join(str(late) for part in delays for late in part)


def show_changes(changes):
    return "".join(" " + text for text in [", ".join(map(show_change, changes))] if text)


class RowsTest(unittest.TestCase):
    """Each row with its answer, letter by letter."""

    def say(self, desk, text):
        told = check_kept(self, desk.say, text)
        self.assertIs(told.__class__, str)
        return told

    def test_net(self):
        desk = Desk()
        self.assertEqual(self.say(desk, "net " + FLASH), "ok")
        self.assertEqual(self.say(desk, "net inputs 6\n01 5"), "ok")

    def test_words(self):
        desk = desk_with(FLASH)
        self.assertEqual(self.say(desk, "words 0 to 1"), "up down 0!")
        self.assertEqual(self.say(desk, "words 1 to 0"), "down up 0!")
        self.assertEqual(self.say(desk, "words 0 to 0"), "0 1 0")
        self.assertEqual(self.say(desk, "words 1 to 1"), "1 0 0")
        desk = desk_with("inputs 2\n0110 0 1\n0111 2 0")
        self.assertEqual(self.say(desk, "words 01 to 10"), "up down 1! 1!")
        self.assertEqual(self.say(desk, "words 00 to 11"), "up up 0! up!")

    def test_most(self):
        desk = desk_with(FLASH)
        self.assertEqual(self.say(desk, "most 0 to 1"), "1 1 2")
        self.assertEqual(self.say(desk, "most 1 to 1"), "0 0 0")

    def test_run(self):
        desk = desk_with(FLASH)
        self.assertEqual(self.say(desk, "run 0 to 1 : 2 0 0"), "0 0 / 1 2 / 0 0 2")
        self.assertEqual(self.say(desk, "run 0 to 1 : 0 0 0"), "0 0 / 1 0 / 0")
        self.assertEqual(self.say(desk, "run 1 to 1 : 5 6 7"), "1 / 0 / 0")
        self.assertEqual(self.say(desk, "run 1 to 0 : 0 10 3"), "1 0 / 0 0 / 0 3 10")
        great = str(10 ** 30)
        self.assertEqual(self.say(desk, "run 0 to 1 : %s 0 0" % great), "0 0 / 1 %s / 0 0 %s" % (great, great))

    def test_shows(self):
        desk = desk_with(FLASH)
        self.assertEqual(self.say(desk, "shows 0 0 to 1"), "never")
        self.assertEqual(self.say(desk, "shows 1 0 to 1"), "never")
        self.assertEqual(self.say(desk, "shows 2 0 to 0"), "never")
        told = self.say(desk, "shows 2 0 to 1")
        self.assertRegex(told, r"\A[012] [012] 0\Z")
        waves = self.say(desk, "run 0 to 1 : " + told).split(" / ")
        self.assertEqual(len(waves[2].split(" ")), 3)

    def test_cover(self):
        desk = Desk()
        self.assertEqual(self.say(desk, "cover 11- 0-1 : 111 to 011"), "gap")
        self.assertEqual(self.say(desk, "cover 11- 0-1 -11 : 111 to 011"), "held 2")
        self.assertEqual(self.say(desk, "cover 11- 0-1 : 110 to 111"), "held 0")
        self.assertEqual(self.say(desk, "cover 0- 1- 10 : 00 to 11"), "gap")
        self.assertEqual(self.say(desk, "cover 00 01 11 : 10 to 11"), "clear")
        self.assertEqual(self.say(desk, "cover 11 01 : 00 to 11"), "meets 1")
        self.assertEqual(self.say(desk, "cover 1 : 0 to 1"), "clear")
        self.assertEqual(self.say(desk, "cover ------ : 000000 to 111111"), "held 0")

    def test_least(self):
        desk = Desk()
        self.assertEqual(self.say(desk, "least 01010011 :"), "2")
        self.assertEqual(self.say(desk, "least 01010011 : 111 to 011"), "3")
        self.assertEqual(self.say(desk, "least 01010011 : 111 to 011, 000 to 001"), "3")
        self.assertEqual(self.say(desk, "least 0010 : 00 to 11"), "none 10")
        self.assertEqual(self.say(desk, "least 0111 : 01 to 10, 00 to 11"), "none --")
        self.assertEqual(self.say(desk, "least 00 :"), "0")
        self.assertEqual(self.say(desk, "least 11 : 0 to 1"), "1")
        self.assertEqual(self.say(desk, "least 0110100110010110 :"), "8")

    def test_mend(self):
        desk = Desk()
        self.assertEqual(self.say(desk, "mend 11- 0-1 : 111 to 011"), "1")
        self.assertEqual(self.say(desk, "mend 11- 0-1 :"), "0")
        self.assertEqual(self.say(desk, "mend 11- 0-1 -11 : 111 to 011, 011 to 111"), "0")
        self.assertEqual(self.say(desk, "mend 01 10 : 00 to 11"), "never 0")
        self.assertEqual(self.say(desk, "mend -1 11 : 10 to 01"), "never 1")
        self.assertEqual(self.say(desk, "mend 01 10 : 01 to 10"), "none --")

    def test_form(self):
        desk = Desk()
        self.assertEqual(self.say(desk, "form and ( in 0 not in 0 ) : 0 to 1"), "0!")
        self.assertEqual(self.say(desk, "form in 0 : 0 to 1"), "up")
        self.assertEqual(self.say(desk, "form not in 5 : 000000 to 000001"), "down")
        self.assertEqual(self.say(desk, "form one : 0 to 1"), "1")
        self.assertEqual(self.say(desk, "form nought : 111 to 001"), "0")
        self.assertEqual(self.say(desk, "form or ( in 0 and ( in 1 not in 1 ) ) : 00 to 11"), "up!")

    def test_too_many(self):
        net, delays = counted_net(201)
        desk = desk_with(show_net(net))
        self.assertEqual(self.say(desk, "run 0 to 1 : " + show_delays(delays)), "too many")
        self.assertEqual(self.say(desk, "most 0 to 1"), "too many")
        self.assertEqual(self.say(desk, "run 0 to 0 : " + show_delays(delays))[:2], "0 ")
        net, delays = counted_net(200)
        desk = desk_with(show_net(net))
        self.assertNotEqual(self.say(desk, "run 0 to 1 : " + show_delays(delays)), "too many")
        net, delays = doubling_net(40)
        desk = desk_with(show_net(net))
        self.assertEqual(in_a_moment(lambda: self.say(desk, "run 0 to 1 : " + show_delays(delays))), "too many")
        self.assertEqual(in_a_moment(lambda: self.say(desk, "most 0 to 1")), "too many")
        self.assertEqual(self.say(desk, "most 0 to 0"), " ".join(["0"] * 41))

    def test_no_formula(self):
        for net in not_formulas():
            desk = desk_with(show_net(net))
            change = " to ".join(["0" * net[0], "1" * net[0]])
            for wire in range(net[0] + len(net[1])):
                self.assertEqual(self.say(desk, "shows %d %s" % (wire, change)), "no formula")

    def test_a_second_net(self):
        desk = desk_with(FLASH)
        self.assertEqual(self.say(desk, "words 0 to 1"), "up down 0!")
        self.assertEqual(self.say(desk, "net inputs 2\n0001 0 1"), "ok")
        self.assertEqual(self.say(desk, "words 01 to 11"), "up 1 up")
        with self.assertRaises(NoRow):
            desk.say("words 0 to 1")
        self.assertEqual(self.say(desk, "words 01 to 11"), "up 1 up")

    def test_two_desks(self):
        one, other = desk_with(FLASH), Desk()
        with self.assertRaises(NoRow):
            other.say("words 0 to 1")
        self.assertEqual(other.say("net inputs 1\n01 0"), "ok")
        self.assertEqual(one.say("words 0 to 1"), "up down 0!")
        self.assertEqual(other.say("words 0 to 1"), "up up")

    def test_other_rows_play_no_part(self):
        desk = desk_with(FLASH)
        for row in ("cover 1 : 0 to 1", "least 01 :", "mend 1 :", "form in 0 : 0 to 1", "shows 2 0 to 1",
                    "most 0 to 1"):
            before = self.say(desk, row)
            self.assertEqual(self.say(desk, "words 0 to 1"), "up down 0!")
            self.assertEqual(self.say(desk, row), before)


class AnswersTest(unittest.TestCase):
    """Texts are answered as the functions answer what they write."""

    def test_nets(self):
        chance = random.Random(371)
        for net in made_nets(372, 60) + [net for net, change in made_formulas(373, 60)]:
            desk = desk_with(show_net(net))
            for turn in range(3):
                change = made_change(chance, net[0])
                text = show_change(change)
                self.assertEqual(desk.say("words " + text), " ".join(map(show_word, words_of(net, change))))
                self.check_most(desk, net, change)
                delays = made_delays(chance, net, chance.choice((0, 3, 10 ** 30)))
                waves = [" ".join(map(str, (first,) + times)) for first, times in waves_of(net, delays, change)]
                self.assertEqual(desk.say("run %s : %s" % (text, show_delays(delays))), " / ".join(waves))
                for wire in range(net[0] + len(net[1])):
                    self.check_shows(desk, net, change, wire)

    def check_most(self, desk, net, change):
        try:
            right = " ".join(map(str, greatest(net, change)))
        except TooMany:
            right = "too many"
        self.assertEqual(desk.say("most " + show_change(change)), right)

    def check_shows(self, desk, net, change, wire):
        told = desk.say("shows %d %s" % (wire, show_change(change)))
        if not is_formula(net):
            self.assertEqual(told, "no formula")
            with self.assertRaises(NotFormula):
                shown(net, change, wire)
        elif not words_of(net, change)[wire][2]:
            self.assertEqual(told, "never")
        else:
            run = desk.say("run %s : %s" % (show_change(change), told)).split(" / ")
            self.assertGreater(len(run[wire].split(" ")), 2)
            self.assertLessEqual(set(told.split(" ")), {"0", "1", "2"})

    def test_covers(self):
        chance = random.Random(374)
        desk = Desk()
        for cover in made_covers(375, 150):
            if cover[1]:
                change = made_change(chance, cover[0])
                told = desk.say("cover %s : %s" % (" ".join(cover[1]), show_change(change)))
                self.assertEqual(told, " ".join(map(str, judged(cover, change))))

    def test_leasts(self):
        desk = Desk()
        for wish in made_wishes(376, 100):
            told = least_free(wish)
            right = "none " + told[1] if told[0] == "none" else str(len(told[1][1]))
            self.assertEqual(desk.say("least %s :%s" % (wish[1], show_changes(wish[2]))), right)

    def test_mends(self):
        chance = random.Random(377)
        desk = Desk()
        kinds = set()
        for cover in made_covers(378, 150, 4):
            if cover[1]:
                changes = made_changes(chance, cover[0], "1" * 16, chance.choice((0, 1, 3, 64)))
                told = mended(cover, changes)
                kinds.add(told[0])
                right = str(len(told[1])) if told[0] == "more" else "%s %s" % told[:2]
                self.assertEqual(desk.say("mend %s :%s" % (" ".join(cover[1]), show_changes(changes))), right)
        self.assertEqual(kinds, {"more", "never", "none"})

    def test_forms(self):
        chance = random.Random(379)
        desk = Desk()
        for many, form in made_forms(380, 200):
            change = made_change(chance, many)
            told = desk.say("form %s : %s" % (show_form(form), show_change(change)))
            self.assertEqual(told, show_word(form_word(form, change)))


class RefusedTest(unittest.TestCase):
    def refused(self, desk, text):
        """NoRow, and nothing is changed."""
        with self.assertRaises(NetError, msg=repr(text)[:200]) as held:
            check_kept(self, desk.say, text)
        self.assertIs(held.exception.__class__, NoRow)
        if desk is self.desk:
            self.assertEqual(desk.say("words 0 to 1"), "up down 0!")
        else:
            with self.assertRaises(NoRow):
                desk.say("words 0 to 1")

    def setUp(self):
        self.desk = desk_with(FLASH)

    def test_without_a_net(self):
        for row in ("words 0 to 1", "most 0 to 1", "run 0 to 1 : 0 0 0", "shows 2 0 to 1"):
            self.desk.say(row)
            self.refused(Desk(), row)

    def test_a_refused_net_is_none(self):
        desk = Desk()
        for text in ("net inputs 1", "net " + FLASH + "\n"):
            with self.assertRaises(NoRow):
                desk.say(text)
            with self.assertRaises(NoRow):
                desk.say("words 0 to 1")

    def test_heads_that_are_none(self):
        for row in ("", " ", "word 0 to 1", "Words 0 to 1", "words0 to 1", "wordss 0 to 1", "0 to 1", "nets " + FLASH,
                    "ok",
                    "inputs 1\n10 0", "quit", "help", "bounds 0", "most", "run", "shows", "cover", "least", "mend",
                    "form",
                    "net", "words", "\n", "words\n0 to 1", "net\n" + FLASH, "~" * 6000, " words 0 to 1", "never",
                    "too many"):
            self.refused(self.desk, row)
            self.refused(Desk(), row)

    def test_no_texts(self):
        for thing in odd_things() + [("words", "0 to 1"), ["words 0 to 1"], b"words 0 to 1", {"words": "0 to 1"}]:
            self.refused(self.desk, thing)

    def test_signs_put_otherwise(self):
        """A blank more, ahead, behind or lacking, a line end, a word twice or lacking."""
        rows = ["words 0 to 1", "most 0 to 1", "run 0 to 1 : 2 0 0", "shows 2 0 to 1", "cover 11- 0-1 : 111 to 011",
                "least 01010011 : 111 to 011, 000 to 001", "mend 11- 0-1 : 111 to 011, 000 to 001",
                "form and ( in 0 not in 0 ) : 0 to 1", "least 0110 :", "mend 01 10 :"]
        # Rows that are right all the same: a product, a not may lack or stand twice.
        rights = {"cover 11- : 111 to 011", "cover 0-1 : 111 to 011", "mend 11- : 111 to 011, 000 to 001",
                  "mend 0-1 : 111 to 011, 000 to 001", "mend 01 :", "mend 10 :", "cover 11- 11- 0-1 : 111 to 011",
                  "cover 11- 0-1 0-1 : 111 to 011", "mend 11- 11- 0-1 : 111 to 011, 000 to 001",
                  "mend 11- 0-1 0-1 : 111 to 011, 000 to 001", "mend 01 01 10 :", "mend 01 10 10 :", "mend 0110 :",
                  "form and ( in 0 in 0 ) : 0 to 1", "form and ( in 0 not not in 0 ) : 0 to 1"}
        for row in rows:
            self.desk.say(row)
            blanks = [at for at, sign in enumerate(row) if sign == " "]
            others = [" " + row, row + " ", row + "\n", "\n" + row, row + "\t", row + " 0", row + ":", row + " :",
                      row + ","]
            others += [row[:at] + " " + row[at:] for at in blanks] + [row[:at] + row[at + 1:] for at in blanks]
            others += [row[:at] + sign + row[at + 1:] for at in blanks for sign in "\n\t_"]
            words = row.split(" ")
            others += [" ".join(words[:at] + words[at + 1:]) for at in range(len(words))]
            others += [" ".join(words[:at] + words[at:at + 1] + words[at:]) for at in range(len(words))]
            for other in others:
                if other in rights:
                    self.desk.say(other)
                else:
                    self.refused(self.desk, other)

    def test_nets_that_are_none(self):
        for text in ("", "inputs 0\n10 0", "inputs 7\n10 0", "inputs 1", "inputs 1\n", "inputs 1\n10 1",
                     "inputs 01\n10 0",
                     "inputs 1\n10 00", "inputs 1\n102 0", "inputs 1\n10  0", " inputs 1\n10 0", "inputs 1\n10 0\n",
                     "inputs 1\n10 0 ", "inputs 1 10 0", "inputs 1\n\n10 0", "inputs 1\n0001 0",
                     "inputs 1\n10 " + "9" * 5000,
                     "inputs " + "1" * 5000 + "\n10 0", "inputs 1\n10 -1"):
            self.refused(self.desk, "net " + text)
            self.refused(Desk(), "net " + text)

    def test_more_than_forty_gates(self):
        self.assertEqual(Desk().say("net " + show_net(great_net(40))), "ok")
        for count in (41, 42, 90):
            self.refused(self.desk, "net " + show_net(great_net(count)))
            self.refused(Desk(), "net " + show_net(great_net(count)))

    def test_changes_that_are_none(self):
        for change in ("", "0", "0 to", "to 1", "0 to 2", "00 to 11", "0 to 11", "01 to 1", "0  to 1", "0 to  1",
                       "0to1", "0 TO 1",
                       "0 to 1 to 0", "0, 1", "0 1", "- to 1", "0 to 1,", "a to b", "0 to 1 :", " to ", "0 to 1\n",
                       "None"):
            for row in ("words ", "most ", "shows 2 "):
                self.refused(self.desk, row + change)
            self.refused(self.desk, "run %s : 0 0 0" % change)
            for row in ("cover 1 : ", "least 01 : ", "mend 1 : ", "form in 0 : "):
                if row != "form in 0 : " or change not in ("00 to 11",):
                    self.refused(self.desk, row + change)
                    self.refused(Desk(), row + change)

    def test_delays_that_are_none(self):
        for delays in ("", "0", "0 0", "0 0 0 0", "0 0 -1", "0 0 01", "0 0 00", "0  0 0", "0 0 0 ", " 0 0 0",
                       "0, 0, 0", "0 0 x",
                       "0 0 0\n", "0 / 0 0", "0 0 1.0", "+1 0 0", "0 0 " + "1" * 41, "0 0 " + "9" * 5000, "0 0 1e3",
                       "0 0 True",
                       "0 0 %d" % (10 ** 30 + 1), "%d 0 0" % 10 ** 31, ": 0 0 0", "0 0 0 :"):
            self.refused(self.desk, "run 0 to 1 : " + delays)
        for row in ("run 0 to 1", "run 0 to 1 :", "run 0 to 1 0 0 0", "run : 0 0 0", "run 0 0 0 : 0 to 1",
                    "run 0 to 1: 0 0 0",
                    "run 0 to 1 :0 0 0", "run 0 to 1 : 0 0 0 : 0 0 0"):
            self.refused(self.desk, row)
        self.desk.say("run 0 to 1 : 0 0 %d" % 10 ** 30)

    def test_wires_that_are_none(self):
        for wire in ("3", "4", "-1", "02", "00", "x", "", "2.0", "1" * 40, "9" * 5000, "+1", "2 2", "0 to 1"):
            self.refused(self.desk, "shows %s 0 to 1" % wire)
        self.refused(self.desk, "shows 0 to 1 2")
        desk = Desk()
        net = not_formulas()[0]
        desk.say("net " + show_net(net))
        with self.assertRaises(NoRow):
            desk.say("shows 3 0 to 1")
        with self.assertRaises(NoRow):
            desk.say("shows 1 0 to 11")
        self.assertEqual(desk.say("shows 2 0 to 1"), "no formula")

    def test_products_that_are_none(self):
        for products in ("", "2", "1 11", "11 1", "1  1", " 1", "1 ", "x", "*", "1, 0", "0000000", "-------", "1 1-",
                         "1\n", "to"):
            for many in (1, 2, 6, 7):
                change = " to ".join(["0" * many, "1" * many])
                for row in ("cover %s : %s", "mend %s : %s"):
                    self.refused(self.desk, row % (products, change))
            self.refused(self.desk, "mend %s :" % products)
        self.refused(self.desk, "cover 1 :")
        self.refused(self.desk, "cover 1 : 0 to 1, 1 to 0")
        self.refused(self.desk, "cover : 0 to 1")
        self.refused(self.desk, "mend :")
        self.refused(self.desk, "mend : 0 to 1")
        self.refused(self.desk, "cover 1 0 : 0 to 1 : 0 to 1")

    def test_more_than_sixteen_products(self):
        for row in ("cover %s : 0 to 1", "mend %s : 0 to 1", "mend %s :"):
            self.desk.say(row % " ".join(["1"] * 16))
            for count in (17, 18, 100):
                self.refused(self.desk, row % " ".join(["1"] * count))

    def test_more_than_four_inputs_are_not_mended(self):
        for many in range(1, 7):
            row = "mend %s : %s to %s" % ("1" * many, "0" * many, "1" * many)
            if many <= 4:
                self.assertEqual(self.desk.say(row), "0")
            else:
                self.refused(self.desk, row)
                self.refused(self.desk, "mend %s :" % ("1" * many))

    def test_tables_that_are_none(self):
        for table in ("", "0", "1", "011", "01101", "0" * 7, "0" * 15, "0" * 17, "0" * 32, "1" * 64, "0" * 5000, "02",
                      "0-", "ab",
                      "01 01", " 01", "0\n"):
            self.refused(self.desk, "least %s :" % table)
            for many in range(1, 7):
                self.refused(self.desk, "least %s : %s to %s" % (table, "0" * many, "1" * many))
        for row in ("least 01", "least :", "least", "least 01:", "least 01 : ", "least 01 : :",
                    "least 01 : 0 to 1,0 to 1",
                    "least 01 : 0 to 1, ", "least 01 : , 0 to 1", "least 01 : 0 to 1,  1 to 0",
                    "least 01 : 0 to 1 , 1 to 0",
                    "least 01 : 0 to 1; 1 to 0", "least 01 : 0 to 1 1 to 0", "least 01 : 00 to 11",
                    "least 01 : 0 to 1, 00 to 11"):
            self.refused(self.desk, row)

    def test_more_than_sixty_four_changes(self):
        for head in ("least 01 :", "mend 1 :"):
            self.desk.say(head + " " + ", ".join(["0 to 1"] * 64))
            for count in (65, 66, 300):
                self.refused(self.desk, head + " " + ", ".join(["0 to 1"] * count))
        text = ", ".join(map(show_change, neighbours(4)))
        self.assertEqual(in_a_moment(lambda: self.desk.say("least 0111111111111110 : " + text)), "8")
        self.assertEqual(len(neighbours(4)), 64)

    def test_forms_that_are_none(self):
        for form in ("", "in", "in 1", "in 2", "in 00", "not", "and ( in 0 )", "and ( in 0 in 0", "in 0 in 0",
                     "one one", "xor", "in -1",
                     "and in 0 in 0", "or ( in 0 in 0 in 0 in 0 in 0 )", "in  0", " in 0", "in 0 ", "( in 0 )",
                     "in " + "1" * 5000):
            self.refused(self.desk, "form %s : 0 to 1" % form)
            self.refused(Desk(), "form %s : 0 to 1" % form)
        for change in ("0000000 to 1111111", "0 to 11", "00 to 1", " to ", "0 to 1, 0 to 1", "01", "2 to 2"):
            self.refused(self.desk, "form in 0 : " + change)
        for row in ("form one :  to ", "form in 0", "form in 0 :", "form : 0 to 1", "form 0 to 1 : in 0",
                    "form in 0 : 0 to 1 : 0 to 1"):
            self.refused(self.desk, row)

    def test_forms_beyond_the_bounds(self):
        chance = random.Random(381)
        change = " : 000000 to 111111"
        for turn in range(10):
            self.desk.say("form " + show_form(within_ten(chance, 6, 40)) + change)
            self.refused(self.desk, "form " + show_form(within_ten(chance, 6, 41)) + change)
        self.refused(self.desk, "form " + show_form(made_form(chance, 6, 300)) + change)
        self.desk.say("form " + show_form(tower_of(10)) + change)
        for deep in (11, 12, 20, 30):
            self.refused(self.desk, "form " + show_form(tower_of(deep)) + change)
        self.assertEqual(self.desk.say("form " + "not " * 9 + "in 0 : 0 to 1"), "down")
        for count in (10, 12, 29, 300, 1400):
            self.refused(self.desk, "form " + "not " * count + "in 0 : 0 to 1")

    def test_a_row_is_looked_at_whole(self):
        """What isn't right behind is refused, also where an answer would be too many or no formula."""
        net, delays = doubling_net(8)
        desk = desk_with(show_net(net))
        for row in ("most 0 to 1 0", "most 0 to 11", "run 0 to 1 : 0 0", "run 0 to 1 : " + show_delays(delays) + " 0",
                    "run 0 to 1 : " + show_delays(delays)[:-1] + "x", "shows 9 0 to 1", "shows 2 0 to 12"):
            with self.assertRaises(NoRow):
                desk.say(row)
        self.assertEqual(desk.say("shows 2 0 to 1"), "no formula")


if __name__ == "__main__":
    unittest.main()
