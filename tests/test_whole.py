"""What the document promises over the whole program."""

import itertools
import random
import unittest

from glitchnet import errors
from glitchnet.bounding import is_bounds, within
from glitchnet.counting import greatest
from glitchnet.covernets import cover_net, cover_shown, cover_wave
from glitchnet.covers import cover_greatest, cover_word, judged, open_pairs
from glitchnet.delaying import is_delays, no_delays, readings_of
from glitchnet.desk import Desk
from glitchnet.errors import NetError, NotFormula, TooMany
from glitchnet.findings import finding_holds
from glitchnet.formnets import form_greatest, form_shown, form_wave, form_word
from glitchnet.formtexts import read_form, show_form
from glitchnet.leasts import least_free
from glitchnet.leastchecks import reasons_holds, shown_by
from glitchnet.ledgers import ledger_holds, ledger_of
from glitchnet.machines import Machine
from glitchnet.mending import mended, neighbours
from glitchnet.nets import settled
from glitchnet.nettexts import read_change, read_net, show_change, show_net
from glitchnet.networds import is_formula, words_of
from glitchnet.ordering import delays_for
from glitchnet.running import waves_of, worth_at
from glitchnet.showing import shown
from glitchnet.sides import side_by_side
from glitchnet.turns import turned, turns_holds
from glitchnet.wishes import asked_of, is_free
from glitchnet.wording import lets, read_word, show_word, word_of
from tests.helpers import (
    alike_forms, all_changes, check_kept, end_of, input_readings, made_change, made_changes, made_covers, made_delays,
    made_formulas, made_forms, made_net, made_nets, made_runs, made_wishes, not_formulas, size_of)
from tests.test_bounding import made_bounds
from tests.test_covernets import drawn_delays
from tests.test_turns import walked_turns


class RunsTest(unittest.TestCase):
    def test_words_and_numbers_by_drawn_delays(self):
        """Each wire's wave is one that its word lets, and has at most the told number of changes."""
        chance = random.Random(401)
        refused = 0
        for net, delays, change in made_runs(402, 150, 10):
            words = words_of(net, change)
            try:
                numbers = greatest(net, change)
            except TooMany:
                numbers, refused = None, refused + 1
            for most in (0, 1, 3, 20, 10 ** 30):
                waves = waves_of(net, made_delays(chance, net, most), change)
                self.assertTrue(all(map(lets, words, waves)))
                if numbers is not None:
                    self.assertTrue(all(len(wave[1]) <= number for wave, number in zip(waves, numbers)))
                    self.assertTrue(all((number - len(wave[1])) % 2 == 0 for wave, number in zip(waves, numbers)))
        self.assertLess(refused, 75)

    def test_a_run_is_the_machines(self):
        for net, delays, change in made_runs(403, 80, 10, 5):
            waves = waves_of(net, delays, change)
            machine = Machine(net, delays, change)
            for time in range(-1, end_of(delays) + 2):
                self.assertEqual(machine.time(), time)
                self.assertEqual(machine.worths(), tuple(worth_at(wave, time) for wave in waves))
                machine.step()
            self.assertEqual(machine.worths(), settled(net, change[1]))

    def test_first_and_last_worths(self):
        chance = random.Random(404)
        for net, delays, change in made_runs(405, 100, 12):
            waves = waves_of(net, made_delays(chance, net, 10 ** 30), change)
            self.assertEqual(tuple(wave[0] for wave in waves), settled(net, change[0]))
            self.assertEqual(tuple(worth_at(wave, 10 ** 40) for wave in waves), settled(net, change[1]))
            self.assertEqual(tuple(word[1] for word in words_of(net, change)), settled(net, change[1]))


class FormulasTest(unittest.TestCase):
    def test_each_to_and_fro_and_each_number_is_shown(self):
        for net, change in made_formulas(411, 120, 8):
            words = words_of(net, change)
            numbers = greatest(net, change)
            for wire, (word, number) in enumerate(zip(words, numbers)):
                self.assertEqual(word[2], number > 1)
                delays = shown(net, change, wire)
                self.assertEqual(delays is None, not word[2])
                if delays is not None:
                    self.assertTrue(word_of(waves_of(net, delays, change)[wire])[2])
                for many in range(-1, number + 3):
                    self.check_number(net, change, wire, many, 0 <= many <= number and (number - many) % 2 == 0)

    def check_number(self, net, change, wire, many, right):
        """Delays just where the number can be, and a finding that holds."""
        delays = delays_for(net, change, wire, many)
        self.assertEqual(delays is not None, right)
        if right:
            self.assertEqual(len(waves_of(net, delays, change)[wire][1]), many)
            self.assertIs(finding_holds(("shows", net, change, delays, wire, many)), True)

    def test_one_or_two_at_the_readings_of_inputs_are_enough(self):
        for net, change in made_formulas(412, 60, 8):
            inner = set(readings_of(net)) - set(input_readings(net))
            for wire in range(net[0] + len(net[1])):
                delays = shown(net, change, wire)
                if delays is not None:
                    self.assertTrue(all(delays[gate][place] == 0 for gate, place in inner))
                    self.assertLessEqual({late for part in delays for late in part}, {0, 1, 2})

    def test_bounds(self):
        """Delays within the bounds show no more than is told; what is told is shown."""
        chance = random.Random(413)
        for net, change in made_formulas(414, 60, 6):
            bounds = made_bounds(chance, net, 3, 3)
            self.assertIs(is_bounds(net, bounds), True)
            told = [within(net, change, bounds, wire) for wire in range(net[0] + len(net[1]))]
            for turn in range(20):
                delays = tuple(tuple(chance.randint(*pair) for pair in part) for part in bounds)
                for wire, wave in enumerate(waves_of(net, delays, change)):
                    if word_of(wave)[2]:
                        self.assertEqual(told[wire][0], "shows")
            for wire, thing in enumerate(told):
                if thing[0] == "shows":
                    self.assertTrue(word_of(waves_of(net, thing[1], change)[wire])[2])
                    self.assertTrue(words_of(net, change)[wire][2])


class LedgersTest(unittest.TestCase):
    def test_no_delays_show_more_than_a_ledger_says(self):
        """Also ledgers of another hand: greater ones that hold."""
        chance = random.Random(421)
        for net, delays, change in made_runs(422, 100, 6):
            try:
                ledger = ledger_of(net, change)
            except TooMany:
                continue
            other = tuple(tuple(number + more for number in part) for part, more in self.raised(chance, net, ledger))
            for paper in (ledger, other):
                if not ledger_holds(net, change, paper):
                    continue
                for most in (0, 2, 9):
                    waves = waves_of(net, made_delays(chance, net, most), change)
                    for gate, part in enumerate(paper):
                        wire = net[0] + gate
                        self.assertLessEqual(len(waves[wire][1]), part[0])
                        self.assertIs(finding_holds(("lets", net, change, wire, part[0], paper)), True)
                        self.assertIs(finding_holds(("lets", net, change, wire, part[0] - 1, paper)), False)

    def raised(self, chance, net, ledger):
        """The parts of gates that no gate reads may be greater."""
        read = {wire for table, ins in net[1] for wire in ins}
        return [(part, 0 if net[0] + gate in read else chance.randint(0, 3)) for gate, part in enumerate(ledger)]


def net_delays(cover, net, delays):
    """Delays of a cover's net, 0 but at the literals."""
    lates = iter([late for part in delays for late in part])
    parts = []
    for table, ins in net[1]:
        still = len(set(table)) == 1
        parts.append(tuple(next(lates) if wire < net[0] and not still else 0 for wire in ins))
    return tuple(parts)


class CoversTest(unittest.TestCase):
    def test_word_number_and_wave_are_those_of_the_net(self):
        chance = random.Random(431)
        for cover in made_covers(432, 120):
            net = cover_net(cover)
            self.assertTrue(is_formula(net))
            for turn in range(4):
                change = made_change(chance, cover[0])
                self.assertEqual(cover_word(cover, change), words_of(net, change)[-1])
                self.assertEqual(cover_word(cover, change)[2], judged(cover, change)[0] in ("gap", "meets"))
                if cover_greatest(cover, change) <= 12:
                    self.assertEqual(cover_greatest(cover, change), greatest(net, change)[-1])
                delays = drawn_delays(chance, cover, 4)
                wave = cover_wave(cover, delays, change)
                self.assertTrue(lets(cover_word(cover, change), wave))
                self.assertLessEqual(len(wave[1]), cover_greatest(cover, change))
                self.assertEqual(wave, waves_of(net, net_delays(cover, net, delays), change)[-1])

    def test_without_open_pairs_no_change_of_one_input_goes_to_and_fro(self):
        for cover in made_covers(433, 150, 4, 6):
            froes = [change for change in neighbours(cover[0]) if cover_word(cover, change)[2]]
            self.assertEqual(sorted({tuple(sorted(change)) for change in froes}), list(open_pairs(cover)))
            for change in froes:
                self.assertTrue(word_of(cover_wave(cover, cover_shown(cover, change), change))[2])

    def test_wishes(self):
        for wish in made_wishes(434, 120):
            told = least_free(wish)
            if told[0] == "least":
                kind, cover, paper = told
                self.assertIs(is_free(wish, cover), True)
                self.assertFalse(any(cover_word(cover, change)[2] for change in wish[2]))
                self.assertEqual(shown_by(wish, asked_of(wish), paper), len(cover[1]))
                self.assertIs(finding_holds(("free", wish, cover)), True)
                self.assertIs(finding_holds(("least", wish, cover, paper)), True)
                self.assertEqual(mended(cover, wish[2])[:2], ("more", ()))
            else:
                kind, asked, reasons = told
                self.assertIs(reasons_holds(wish, asked, reasons), True)
                self.assertIs(finding_holds(("none", wish, asked, reasons)), True)

    def test_mended(self):
        chance = random.Random(435)
        for cover in made_covers(436, 100, 4, 8):
            table = "".join(str(settled(cover_net(cover), row)[-1]) for row in itertools.product((0, 1),
                                                                                                 repeat=cover[0]))
            for changes in (made_changes(chance, cover[0], table, 4), neighbours(cover[0])):
                told = mended(cover, changes)
                wish = (cover[0], table, changes)
                if told[0] == "more":
                    more = (cover[0], cover[1] + told[1])
                    self.assertIs(is_free(wish, more), True)
                    self.assertIs(finding_holds(("free", wish, more)), True)
                    self.assertEqual(mended(more, changes)[:2], ("more", ()))
                elif told[0] == "none":
                    self.assertIs(finding_holds(("none", wish) + told[1:]), True)
                    self.assertEqual(least_free(wish)[0], "none")
                else:
                    self.assertTrue(any(cover_word(cover, change)[2] for change in changes))


class FormsTest(unittest.TestCase):
    def test_turns_and_sides(self):
        chance = random.Random(441)
        for many, form in made_forms(442, 40, 3, 20):
            turns = walked_turns(form)
            for turn in chance.sample(turns, min(len(turns), 5)):
                other = turned(form, turn)
                self.assertIs(turns_holds(form, other, (turn,)), True)
                self.assertIs(finding_holds(("turned", form, other, (turn,))), True)
                self.assertIsNone(side_by_side(many, form, other))

    def test_sides(self):
        for many, one, other in alike_forms(443, 60, 3):
            told = side_by_side(many, one, other)
            more = [change for change in all_changes(many) if form_word(other, change)[2] and not form_word(one,
                                                                                                            change)[2]]
            self.assertEqual(told is not None, bool(more))
            if told is not None:
                self.assertEqual(told[0], min(more))
                self.assertTrue(word_of(form_wave(other, told[1], told[0]))[2])

    def test_forms_and_their_texts(self):
        chance = random.Random(444)
        desk = Desk()
        for many, form in made_forms(445, 80):
            change = made_change(chance, many)
            self.assertEqual(read_form(many, show_form(form)), form)
            word = form_word(form, change)
            self.assertEqual(word[2], form_greatest(form, change) > 1)
            self.assertEqual(form_shown(form, change) is not None, word[2])
            self.assertEqual(desk.say("form %s : %s" % (show_form(form), show_change(change))), show_word(word))


class DeskTest(unittest.TestCase):
    def test_texts_are_answered_as_the_functions_answer(self):
        chance = random.Random(451)
        desk = Desk()
        for net in made_nets(452, 60):
            self.assertEqual(desk.say("net " + show_net(net)), "ok")
            change = made_change(chance, net[0])
            words = desk.say("words " + show_change(change)).split(" ")
            self.assertEqual(tuple(map(read_word, words)), words_of(net, change))
            delays = made_delays(chance, net, 5)
            text = "run %s : %s" % (show_change(change), " ".join(str(late) for part in delays for late in part))
            rows = [tuple(map(int, row.split(" "))) for row in desk.say(text).split(" / ")]
            self.assertEqual(tuple((row[0], row[1:]) for row in rows), waves_of(net, delays, change))
            self.assertEqual(read_net(show_net(net)), net)
            self.assertEqual(read_change(net[0], show_change(change)), change)


class RefusalsTest(unittest.TestCase):
    def test_which_one_goes_first(self):
        """A net that is no formula, and whose numbers are too great."""
        net = (1, tuple(("0110", (wire, wire)) for wire in range(8)))
        change = ((0,), (1,))
        with self.assertRaises(NetError) as held:
            greatest(net, change)
        self.assertIs(held.exception.__class__, TooMany)
        for wire in (0, 4, 8):
            with self.assertRaises(NetError) as held:
                delays_for(net, change, wire, 1)
            self.assertIs(held.exception.__class__, NotFormula)
        for other in not_formulas():
            with self.assertRaises(NotFormula):
                shown(other, ((0,) * other[0], (0,) * other[0]), 0)

    def test_no_refusal_stands_under_another_one(self):
        classes = [getattr(errors, name) for name in ("NoText", "TooMany", "NotFormula", "NoTurn", "NoForms", "NoRow")]
        for one, other in itertools.permutations(classes, 2):
            self.assertFalse(issubclass(one, other))
        self.assertTrue(all(one.__bases__ == (NetError,) for one in classes))


class KeptTest(unittest.TestCase):
    def test_what_was_told_may_be_handed_in_again(self):
        for net, change in made_formulas(461, 30, 8):
            for wire in range(net[0] + len(net[1])):
                for delays in (shown(net, change, wire), delays_for(net, change, wire, greatest(net, change)[wire])):
                    if delays is not None:
                        self.assertIs(check_kept(self, is_delays, net, delays), True)
                        check_kept(self, waves_of, net, delays, change)
        great = made_net(random.Random(462), 6, 40)
        self.assertEqual(read_net(show_net(great)), great)
        self.assertIs(is_delays(great, no_delays(great)), True)
        for cover in made_covers(463, 20):
            net = cover_net(cover)
            words_of(net, ((0,) * cover[0], (1,) * cover[0]))
            self.assertEqual(read_net(show_net(net)), net)

    def test_the_same_is_told_again_behind_other_questions(self):
        wishes = made_wishes(464, 30)
        before = [least_free(wish) for wish in wishes]
        forms = made_forms(465, 30, 4)
        shows = [form_shown(form, ((0,) * many, (1,) * many)) for many, form in forms]
        self.assertEqual([least_free(wish) for wish in reversed(wishes)][::-1], before)
        self.assertEqual([form_shown(form, ((0,) * many, (1,) * many)) for many, form in reversed(forms)][::-1], shows)

    def test_a_turn_back_and_forth(self):
        for many, form in made_forms(466, 30, 4, 30):
            if size_of(form) <= 38:
                there = ((), "twice", ("not", ("not", form)))
                self.assertEqual(turned(turned(form, there), ((), "twice", form)), form)


if __name__ == "__main__":
    unittest.main()
