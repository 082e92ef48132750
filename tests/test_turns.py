import itertools
import random
import unittest

from glitchnet.errors import NetError, NoTurn
from glitchnet.formnets import form_greatest, form_word
from glitchnet.forms import is_form, worth_of
from glitchnet.turns import turned, turns_holds, turns_to
from tests.helpers import (
    all_changes, all_rows, check_kept, in_a_moment, inner_parts, is_plain, made_form, made_forms, odd_things, others_of,
    places_in, put_in, same_parts, size_of, within_ten)
from tests.test_forms import small_forms

RULES = ["flat", "moved", "twice", "morgan", "factored", "absorbed", "single", "shut", "bound"]
OTHER = {"and": "or", "or": "and"}
FREE = {"and": ("one",), "or": ("nought",)}
SHUT = {"and": ("nought",), "or": ("one",)}


def forward(old):
    """All (rule, new) that a form is turned to, both ways' rules the way about that the document writes."""
    found = set()
    head = old[0]
    if head == "not":
        inner = old[1]
        if inner[0] == "not":
            found.add(("twice", inner[1]))
        if inner[0] in OTHER:
            found.add(("morgan", (OTHER[inner[0]], tuple(("not", part) for part in inner[1]))))
    if head not in OTHER:
        return found
    parts = list(old[1])
    for at, part in enumerate(parts):
        if part[0] == head and len(parts) - 1 + len(part[1]) <= 4:
            found.add(("flat", (head, tuple(parts[:at]) + part[1] + tuple(parts[at + 1:]))))
    for at in range(len(parts) - 1):
        changed = parts[:at] + [parts[at + 1], parts[at]] + parts[at + 2:]
        found.add(("moved", (head, tuple(changed))))
    return found | one_way(old)


def one_way(old):
    """All (rule, new) of the rules of one way."""
    found = set()
    head, parts = old
    if len(parts) != 2:
        return found
    f, g = parts
    other = OTHER[head]
    if f[0] == other and g[0] == other and len(f[1]) == len(g[1]) == 2 and f[1][0] == g[1][0]:
        found.add(("factored", (other, (f[1][0], (head, (f[1][1], g[1][1]))))))
    if g[0] == other and len(g[1]) == 2 and g[1][0] == f:
        found.add(("absorbed", f))
    if f == g:
        found.add(("single", f))
    if g == ("not", f):
        found.add(("shut", SHUT[head]))
    if f == FREE[head]:
        found.add(("bound", g))
    if f == SHUT[head]:
        found.add(("bound", f))
    return found


def backward(old):
    """All (rule, new) of the rules of both ways, the other way about."""
    found = {("twice", ("not", ("not", old)))}
    head = old[0]
    if head not in OTHER:
        return found
    parts = old[1]
    for start, end in itertools.combinations(range(len(parts) + 1), 2):
        if end - start >= 2 and end - start < len(parts):
            found.add(("flat", (head, parts[:start] + ((head, parts[start:end]),) + parts[end:])))
    if all(part[0] == "not" for part in parts):
        found.add(("morgan", ("not", (OTHER[head], tuple(part[1] for part in parts)))))
    return found


def walked(old):
    """All (rule, new) that a form is turned to."""
    return forward(old) | backward(old)


def rule_cases(f, g, h):
    """For each rule old and new, of and's side, as the document writes them."""
    land, lor = (lambda *parts: ("and", parts)), (lambda *parts: ("or", parts))
    no, one, nought = (lambda form: ("not", form)), ("one",), ("nought",)
    return [
        ("flat", land(land(f, g), h), land(f, g, h)), ("flat", land(f, land(g, h)), land(f, g, h)),
        ("flat", land(f, land(g, h), f), land(f, g, h, f)), ("flat", land(land(f, g, h), f), land(f, g, h, f)),
        ("flat", land(f, land(g, land(h, f))), land(f, g, land(h, f))),
        ("flat", land(land(f, g), land(g, h)), land(f, g, land(g, h))),
        ("flat", land(land(f, g), land(g, h)), land(land(f, g), g, h)),
        ("moved", land(f, g), land(g, f)), ("moved", land(f, g, h), land(g, f, h)),
        ("moved", land(f, g, h), land(f, h, g)), ("moved", land(f, f), land(f, f)),
        ("moved", land(f, g, g, h), land(f, g, g, h)), ("moved", land(f, f, g, h), land(f, f, h, g)),
        ("twice", no(no(f)), f), ("twice", no(no(no(f))), no(f)),
        ("morgan", no(land(f, g)), lor(no(f), no(g))), ("morgan", no(land(f, g, h)), lor(no(f), no(g), no(h))),
        ("morgan", no(land(f, no(g), h, f)), lor(no(f), no(no(g)), no(h), no(f))),
        ("factored", lor(land(f, g), land(f, h)), land(f, lor(g, h))),
        ("factored", lor(land(f, g), land(f, g)), land(f, lor(g, g))),
        ("absorbed", lor(f, land(f, g)), f), ("absorbed", lor(f, land(f, f)), f),
        ("single", land(f, f), f), ("shut", land(f, no(f)), nought), ("shut", land(no(f), no(no(f))), nought),
        ("bound", land(one, f), f), ("bound", land(nought, f), nought), ("bound", land(one, one), one),
        ("bound", land(nought, nought), nought), ("bound", land(one, nought), nought),
        ("bound", land(nought, one), nought),
    ]


def near_misses(f, g, h):
    """For each rule old and new, of and's side, that are almost so; F, G and H are unlike and have no parts."""
    land, lor = (lambda *parts: ("and", parts)), (lambda *parts: ("or", parts))
    no, one, nought = (lambda form: ("not", form)), ("one",), ("nought",)
    return [
        ("flat", land(lor(f, g), h), land(f, g, h)), ("flat", land(land(f, g), h), land(g, f, h)),
        ("flat", land(land(f, g), h), land(h, f, g)), ("flat", land(land(f, g), h), lor(f, g, h)),
        ("flat", land(land(f, g), land(g, h)), land(f, g, g, h)), ("flat", land(f, g, h), land(f, g, h)),
        ("flat", lor(land(f, g), h), land(f, g, h)), ("flat", land(f, land(g, land(h, f))), land(f, g, h, f)),
        ("flat", land(f, g, h), land(land(f, h), g)), ("flat", no(land(f, g)), land(f, g)),
        ("moved", land(f, g), land(f, g)), ("moved", land(f, g, h), land(h, g, f)),
        ("moved", land(f, g, h), land(g, h, f)),
        ("moved", land(f, g), lor(g, f)), ("moved", land(f, g, h, f), land(g, f, f, h)),
        ("moved", land(f, g), land(g, f, f)),
        ("moved", no(f), no(f)), ("moved", f, f), ("moved", land(f, g, h, no(f)), land(no(f), g, h, f)),
        ("twice", no(f), f), ("twice", f, f), ("twice", no(no(f)), no(f)), ("twice", no(no(f)), g),
        ("twice", no(no(no(no(f)))), f), ("morgan", no(land(f, g)), land(no(f), no(g))),
        ("morgan", no(land(f, g)), lor(no(g), no(f))), ("morgan", no(land(f, g)), lor(no(f), g)),
        ("morgan", no(land(f, g, h)), lor(no(f), no(g))), ("morgan", land(f, g), lor(no(f), no(g))),
        ("morgan", no(land(f, g)), no(lor(no(f), no(g)))), ("morgan", no(no(f)), f), ("morgan", no(f), no(f)),
        ("morgan", no(land(f, no(g))), lor(no(f), g)),
        ("factored", land(f, lor(g, h)), lor(land(f, g), land(f, h))),
        ("factored", lor(land(f, g), land(h, g)), land(g, lor(f, h))),
        ("factored", lor(land(f, g), land(f, h)), land(f, lor(h, g))),
        ("factored", lor(land(f, g), land(f, h)), land(lor(g, h), f)),
        ("factored", lor(land(f, g), land(h, f)), land(f, lor(g, h))),
        ("factored", lor(land(f, g, h), land(f, h)), land(f, lor(g, h))),
        ("factored", lor(land(f, g), land(f, h), land(f, h)), land(f, lor(g, h))),
        ("factored", land(land(f, g), land(f, h)), land(f, land(g, h))),
        ("factored", lor(land(f, g), lor(f, h)), land(f, lor(g, h))), ("factored", lor(land(f, g), f), f),
        ("factored", lor(land(f, g), land(f, h)), lor(f, land(g, h))), ("factored", lor(f, g), land(f, g)),
        ("absorbed", lor(land(f, g), f), f), ("absorbed", lor(f, land(g, f)), f),
        ("absorbed", lor(f, land(f, g, h)), f),
        ("absorbed", lor(f, land(f, g), h), f), ("absorbed", lor(f, land(f, g)), g),
        ("absorbed", f, lor(f, land(f, g))),
        ("absorbed", lor(f, lor(f, g)), f), ("absorbed", lor(f, land(g, h)), f), ("absorbed", lor(f, f), f),
        ("single", land(f, f, f), f), ("single", f, land(f, f)), ("single", land(f, g), f), ("single", land(f, f), g),
        ("single", land(f, f, f), land(f, f)), ("single", no(no(f)), f),
        ("shut", land(no(f), f), nought), ("shut", land(f, no(f)), one), ("shut", land(f, no(g)), nought),
        ("shut", land(f, no(f), g), nought), ("shut", nought, land(f, no(f))), ("shut", land(f, f), nought),
        ("shut", land(f, no(f)), f),
        ("bound", land(f, one), f), ("bound", land(f, nought), nought), ("bound", land(one, f), one),
        ("bound", land(nought, f), f), ("bound", land(one, f, g), land(f, g)), ("bound", f, land(one, f)),
        ("bound", nought, land(nought, f)), ("bound", land(one, f), g), ("bound", land(f, g), f), ("bound", one, one),
        ("bound", land(nought, f, g), nought), ("bound", no(one), nought),
    ]


def about(form):
    """The other side of a form: or for and, nought for one."""
    names = {"and": "or", "or": "and", "one": "nought", "nought": "one"}
    if form[0] == "in":
        return form
    if form[0] == "not":
        return ("not", about(form[1]))
    return (names[form[0]],) + tuple(tuple(map(about, parts)) for parts in form[1:])


class TurnsToTest(unittest.TestCase):
    def told(self, rule, old, new):
        told = check_kept(self, turns_to, rule, old, new)
        self.assertIsInstance(told, bool)
        return told

    def test_each_rule(self):
        chance = random.Random(261)
        for turn in range(30):
            f, g, h = [made_form(chance, 3, chance.randint(1, 5)) for part in range(3)]
            for rule, old, new in rule_cases(f, g, h):
                for one, other in ((old, new), (about(old), about(new))):
                    self.assertIs(self.told(rule, one, other), True)
                    both = rule in RULES[:4]
                    self.assertIs(self.told(rule, other, one), both or (rule, one) in walked(other))

    def test_one_way_alone(self):
        f, g, h = ("in", 0), ("in", 1), ("in", 2)
        for rule, old, new in rule_cases(f, g, h):
            if old != new:
                self.assertIs(self.told(rule, new, old), rule in RULES[:4])
                self.assertIs(self.told(rule, about(new), about(old)), rule in RULES[:4])

    def test_near_misses(self):
        for f, g, h in itertools.permutations([("in", 0), ("in", 1), ("in", 2)]):
            for rule, old, new in near_misses(f, g, h):
                self.assertIs(self.told(rule, old, new), False, (rule, old, new))
                self.assertIs(self.told(rule, about(old), about(new)), False, (rule, old, new))

    def test_names_that_are_none(self):
        f, g, h = ("in", 0), ("in", 1), ("in", 2)
        for rule, old, new in rule_cases(f, g, h):
            for name in ("", "Flat", "flat ", " flat", rule + "s", rule.upper(), rule + "\n", rule[:-1], "turned",
                         "and", "none", "~" * 6000, "__class__", "0"):
                self.assertIs(self.told(name, old, new), False)

    def test_the_other_rules_names(self):
        """Of each right turn each rule tells what the walk tells."""
        chance = random.Random(262)
        for turn in range(12):
            f, g, h = [made_form(chance, 2, chance.randint(1, 3)) for part in range(3)]
            for rule, old, new in rule_cases(f, g, h):
                for name in RULES:
                    self.assertIs(turns_to(name, old, new), (name, new) in walked(old))
                    self.assertIs(turns_to(name, new, old), (name, old) in walked(new))

    def test_all_pairs_of_small_forms(self):
        forms = small_forms(1)
        forms += [(head, parts) for head in ("and", "or") for parts in itertools.product(
            [("in", 0), ("not", ("in", 0)), ("and", (("in", 0), ("in", 0))), ("or", (("in", 0),
            ("one",)))], repeat=2)]
        forms += [("not", form) for form in forms[-32:]]
        found = 0
        for old in forms:
            right = walked(old)
            for new in forms:
                for rule in RULES:
                    so = (rule, new) in right
                    self.assertIs(turns_to(rule, old, new), so)
                    found += so
        self.assertGreater(found, 200)

    def test_one_thing_put_otherwise(self):
        chance = random.Random(263)
        for turn in range(25):
            f, g, h = [made_form(chance, 2, chance.randint(1, 3)) for part in range(3)]
            for rule, old, new in rule_cases(f, g, h):
                others = [other for other in others_of(new) if is_form(6, other)]
                for other in chance.sample(others, min(len(others), 5)):
                    self.assertIs(turns_to(rule, old, other), (rule, other) in walked(old))
                others = [other for other in others_of(old) if is_form(6, other)]
                for other in chance.sample(others, min(len(others), 5)):
                    self.assertIs(turns_to(rule, other, new), (rule, new) in walked(other))


def walked_turns(form):
    """All turns of a form that are so, whatever the parts of the whole."""
    return [(place, rule, new) for place, part in places_in(form) for rule, new in sorted(walked(part), key=repr)]


def is_turn(form, thing):
    """Whether a thing is a turn of a form, to the kinds of all its parts, whatever the parts of the whole."""
    return any(same_parts(thing, turn) for turn in walked_turns(form))


def led(one, other, paper):
    """Whether a paper leads from one form to the other one, turn by turn."""
    if paper.__class__ is not tuple:
        return False
    for turn in paper:
        if not is_turn(one, turn):
            return False
        one = put_in(one, turn[0], turn[2])
        if size_of(one) > 40:
            return False
    return one == other


def drawn_turns(chance, form, count):
    """A paper by chance of so many turns, and the form to which it leads."""
    paper = []
    while len(paper) < count:
        place, part = chance.choice(places_in(form))
        rule, new = chance.choice(sorted(walked(part), key=repr))
        whole = put_in(form, place, new)
        if size_of(whole) <= 40:
            paper.append((place, rule, new))
            form = whole
    return tuple(paper), form


class TurnedTest(unittest.TestCase):
    def refused(self, form, turn):
        with self.assertRaises(NetError) as held:
            turned(form, turn)
        self.assertIs(held.exception.__class__, NoTurn)

    def check_turn(self, form, turn):
        place, rule, new = turn
        whole = put_in(form, place, new)
        if size_of(whole) > 40:
            self.refused(form, turn)
            return None
        told = check_kept(self, turned, form, turn)
        self.assertTrue(is_plain(told))
        self.assertEqual(told, whole)
        return told

    def test_at_each_place(self):
        chance = random.Random(271)
        rules = set()
        for many, form in made_forms(272, 60):
            turns = walked_turns(form)
            for turn in chance.sample(turns, min(len(turns), 25)):
                self.check_turn(form, turn)
                rules.add(turn[1])
        self.assertGreaterEqual(rules, set(RULES[:4]))

    def test_each_rule_within_others(self):
        f, g, h = ("in", 0), ("not", ("in", 1)), ("in", 2)
        for rule, old, new in rule_cases(f, g, h):
            for form, place in ((old, ()), (("not", old), (0,)), (("or", (f, old, g)), (1,)),
                                (("and", (g, ("not", ("or", (h, h, h, old))))), (1, 0, 3))):
                told = self.check_turn(form, (place, rule, new))
                self.assertEqual([worth_of(told, row) for row in all_rows(3)],
                                 [worth_of(form, row) for row in all_rows(3)])

    def test_nothing_more_is_shown(self):
        """Behind a turn the word is the same or the same without fro, and the number is no greater."""
        chance = random.Random(273)
        fewer = 0
        for many, form in made_forms(274, 60, 2, 24):
            turns = walked_turns(form)
            for turn in chance.sample(turns, min(len(turns), 12)):
                fewer += self.check_less(many, form, turned(form, turn))
        f, g, h = ("in", 0), ("not", ("in", 0)), ("in", 1)
        for rule, old, new in rule_cases(f, g, h):
            self.check_less(2, old, turned(old, ((), rule, new)))
            fewer += self.check_less(2, about(old), turned(about(old), ((), rule, about(new))))
        self.assertGreater(fewer, 20)

    def check_less(self, many, one, other):
        fewer = 0
        for change in all_changes(many):
            first, last, fro = form_word(one, change)
            self.assertIn(form_word(other, change), [(first, last, fro), (first, last, False)])
            before, behind = form_greatest(one, change), form_greatest(other, change)
            self.assertLessEqual(behind, before)
            fewer += behind < before
        return fewer

    def test_exactly_forty_parts(self):
        chance = random.Random(275)
        for turn in range(15):
            form = within_ten(chance, 6, 38)
            for place, part in places_in(form):
                told = turned(form, (place, "twice", ("not", ("not", part))))
                self.assertEqual(size_of(told), 40)
            for longer in (("not", form), within_ten(chance, 6, 39), within_ten(chance, 6, 40)):
                for place, part in places_in(longer):
                    self.refused(longer, (place, "twice", ("not", ("not", part))))
            forty = within_ten(chance, 6, 40)
            for place, part in places_in(forty):
                if part[0] in OTHER:
                    inner = part[1]
                    new = (part[0], (inner[1], inner[0]) + inner[2:])
                    self.assertEqual(turned(forty, (place, "moved", new)), put_in(forty, place, new))

    def test_morgan_over_the_bound(self):
        wide = ("and", tuple(("or", (("in", 0),) * 4) for part in range(4)))
        form = ("and", (("not", wide), ("or", (("in", 1),) * 4), ("or", (("in", 2),) * 4), ("not", ("in", 3))))
        self.assertEqual(size_of(form), 35)
        new = ("or", tuple(("not", part) for part in wide[1]))
        self.assertEqual(size_of(turned(form, ((0,), "morgan", new))), 38)
        wider = ("and", form[1][:3] + (("not", ("not", ("not", ("not", ("in", 3))))),))
        self.assertEqual(size_of(wider), 38)
        self.refused(wider, ((0,), "morgan", new))

    def test_more_than_forty_parts_become_fewer(self):
        chance = random.Random(276)
        great = made_form(chance, 6, 50)
        self.assertEqual(turned(("and", (("nought",), great)), ((), "bound", ("nought",))), ("nought",))
        small = made_form(chance, 6, 40)
        self.assertEqual(turned(("and", (small, small)), ((), "single", small)), small)
        self.refused(("and", (great, great)), ((), "single", great))

    def test_other_turns(self):
        form = ("and", (("in", 0), ("not", ("not", ("in", 1)))))
        right = ((1,), "twice", ("in", 1))
        self.assertEqual(turned(form, right), ("and", (("in", 0), ("in", 1))))
        for turn in (((0,), "twice", ("in", 1)), ((1, 0), "twice", ("in", 1)), ((2,), "twice", ("in", 1)),
                     ((1,), "morgan", ("in", 1)),
                     ((1,), "twice", ("in", 0)), ((1,), "twice", ("in", True)), ((True,), "twice", ("in", 1)),
                     ((1,), "twice"),
                     ((1,), "twice", ("in", 1), ()), [(1,), "twice", ("in", 1)], ([1], "twice", ("in", 1)),
                     (1, "twice", ("in", 1)),
                     ((1,), ("twice",), ("in", 1)), ((1,), None, ("in", 1)), ((1,), ["twice"], ("in", 1)),
                     ((1,), "twice", ["in", 1]),
                     ((1,), "twice", ("in", 1, 1)), ("twice", (1,), ("in", 1)), ((-1,), "twice", ("in", 1)),
                     (None, "twice", ("in", 1)),
                     ((1,), {}, ("in", 1)), ((1,), "twice", None), ((1,), "twice", "in 1"),
                     ({1: 1}, "twice", ("in", 1)), (), None,
                     ("1", "twice", ("in", 1)), ((), "twice", ("in", 1)), ((1,), "twice", ("in", 6)),
                     ((1, 0, 0, 0), "twice", ("in", 1))):
            self.refused(form, turn)

    def test_one_thing_put_otherwise(self):
        chance = random.Random(277)
        for many, form in made_forms(278, 30, 3, 12):
            turns = walked_turns(form)
            for turn in chance.sample(turns, min(len(turns), 4)):
                others = others_of(turn)
                for other in chance.sample(others, min(len(others), 40)):
                    if is_turn(form, other):
                        self.check_turn(form, other)
                    else:
                        self.refused(form, other)

    def test_of_anything(self):
        for form in (("in", 0), ("and", (("not", ("not", ("in", 1))), ("in", 0)))):
            for thing in odd_things():
                self.refused(form, thing)
                self.refused(form, (thing, "twice", ("in", 5)))
                self.refused(form, ((0,), thing, ("in", 1)))
                self.refused(form, ((0,), "twice", thing))
                self.refused(form, ((thing,), "twice", ("in", 5)))


class TurnsHoldsTest(unittest.TestCase):
    def told(self, one, other, thing):
        told = check_kept(self, turns_holds, one, other, thing)
        self.assertIsInstance(told, bool)
        return told

    def test_none(self):
        for many, form in made_forms(281, 40):
            self.assertIs(self.told(form, form, ()), True)
            self.assertIs(self.told(form, ("not", form), ()), False)
            self.assertIs(self.told(("not", ("not", form)), form, ()), False)

    def test_more_than_forty_parts_without_a_turn(self):
        great = made_form(random.Random(282), 6, 90)
        self.assertIs(self.told(great, great, ()), True)
        self.assertIs(self.told(great, ("not", great), ()), False)

    def test_drawn_papers(self):
        chance = random.Random(283)
        for many, form in made_forms(284, 60, 4, 20):
            for count in (1, 2, 5, 12):
                paper, other = drawn_turns(chance, form, count)
                self.assertIs(self.told(form, other, paper), True)
                self.assertIs(self.told(form, ("not", other), paper), False)
                self.assertIs(self.told(form, other, paper[:-1]), led(form, other, paper[:-1]))
                self.assertIs(self.told(form, other, paper[::-1]), led(form, other, paper[::-1]))

    def test_a_hundred_turns_and_more(self):
        chance = random.Random(285)
        for count in (100, 150, 400):
            form = within_ten(chance, 4, 20)
            paper, other = drawn_turns(chance, form, count)
            self.assertIs(in_a_moment(lambda: self.told(form, other, paper)), True)
            self.assertIs(self.told(form, form, paper), form == other)
        form = ("and", (("in", 0), ("in", 1)))
        swapped = ("and", (("in", 1), ("in", 0)))
        paper = (((), "moved", swapped), ((), "moved", form)) * 900
        self.assertIs(in_a_moment(lambda: turns_holds(form, form, paper)), True)
        self.assertIs(in_a_moment(lambda: turns_holds(form, swapped, paper)), False)

    def test_from_a_form_to_itself(self):
        form = ("or", (("in", 0), ("in", 0)))
        self.assertIs(self.told(form, form, ()), True)
        self.assertIs(self.told(form, form, (((), "moved", form),)), True)
        there, back = ((1,), "twice", ("not", ("not", ("in", 0)))), ((1,), "twice", ("in", 0))
        self.assertIs(self.told(form, form, (there, back)), True)
        self.assertIs(self.told(form, form, (there, back, back)), False)
        self.assertIs(self.told(form, form, (back,)), False)

    def test_beyond_forty_on_the_way(self):
        form = within_ten(random.Random(286), 6, 39)
        there, back = ((), "twice", ("not", ("not", form))), ((), "twice", form)
        self.assertIs(self.told(form, form, (there, back)), False)
        small = form
        while size_of(small) > 38:
            small = inner_parts(small)[0]
        paper = (((), "twice", ("not", ("not", small))), ((), "twice", small))
        self.assertIs(self.told(small, small, paper), True)

    def test_one_thing_put_otherwise(self):
        chance = random.Random(287)
        found = {True: 0, False: 0}
        for many, form in made_forms(288, 40, 3, 8):
            paper, other = drawn_turns(chance, form, chance.randint(1, 3))
            others = others_of(paper)
            for thing in chance.sample(others, min(len(others), 40)):
                right = led(form, other, thing)
                self.assertIs(self.told(form, other, thing), right)
                found[right] += 1
        self.assertGreater(found[False], 500)

    def test_of_anything(self):
        form = ("in", 0)
        right = ((), "twice", ("not", ("not", form)))
        for thing in odd_things():
            self.assertIs(self.told(form, form, thing), thing.__class__ is tuple and thing == ())
            for paper in ((thing,), (right, thing), [right], {0: right}, right):
                self.assertIs(self.told(form, ("not", ("not", form)), paper), False)

    def test_nothing_more_is_shown_behind_a_paper(self):
        chance = random.Random(289)
        for many, form in made_forms(290, 25, 2, 16):
            paper, other = drawn_turns(chance, form, 25)
            for change in all_changes(many):
                first, last, fro = form_word(form, change)
                self.assertIn(form_word(other, change), [(first, last, fro), (first, last, False)])
                self.assertLessEqual(form_greatest(other, change), form_greatest(form, change))


if __name__ == "__main__":
    unittest.main()
