"""What several tests need: things of all kinds, made nets, and a time limit."""

import copy
import itertools
import random
import signal

XOR = "0110"
XOR3 = "01101001"
MAJORITY = "00010111"


class TooSlow(AssertionError):
    """What should end in a moment didn't."""


def in_a_moment(asked, seconds=10):
    """What asked() tells; an error instead of an endless wait."""
    def stop(number, frame):
        raise TooSlow("not told within %d seconds" % seconds)
    before = signal.signal(signal.SIGALRM, stop)
    signal.alarm(seconds)
    try:
        return asked()
    finally:
        signal.alarm(0)
        signal.signal(signal.SIGALRM, before)


def nested(make, deep):
    """A thing so many deep."""
    thing = make(0)
    for level in range(deep - 1):
        thing = make(thing)
    return thing


def odd_things():
    """Things that are no net, row (but (0,)), change, delays, wave or word, made anew each time."""
    return [
        None, True, False, 0, 1, 2, -1, 7, 10 ** 39, 10 ** 40 - 1, 1 - 10 ** 40,
        "", "0", "1", "up", "down!", "01", "0001", "inputs 1\n10 0", "01 to 10", "~" * 6000, "\n" * 6000,
        (), (()), ((),), ((), ()), (((),),), (None,), (None, None), (None, None, None),
        (0,), (2, 3), (True, False), (True, False, True), ("0", "1"), ("0", "1", "2"),
        (0, 0, 0, 0, 0, 0, 0, 0), ("a", ("b", ("c", 1))),
        [], [0], [0, 1], [0, 1, True], [[]], [[0], [1]], [(0,), (1,)], [1, [["10", [0]]]],
        {}, {0: 1}, {"many": 1, "gates": ()}, {(0, 1): [0, {"a": None}]}, {None: {}},
        nested(lambda thing: (thing,), 30), nested(lambda thing: [thing], 30),
        nested(lambda thing: {"a": thing}, 30), nested(lambda thing: (thing, thing), 12),
        nested(lambda thing: (1, (thing,)), 15),
        tuple([2] * 19000), [0] * 19000, {number: number for number in range(9000)}, (1, tuple([0] * 19000)),
    ]


def same_parts(one, other):
    """Whether two things are alike to the kinds of all their parts."""
    if one.__class__ is not other.__class__:
        return False
    if isinstance(one, (tuple, list)):
        return len(one) == len(other) and all(map(same_parts, one, other))
    if isinstance(one, dict):
        return same_parts(list(one.items()), list(other.items()))
    return one == other


def is_plain(thing):
    """Whether it is made of tuples, texts, whole numbers and truths alone."""
    if thing.__class__ is tuple:
        return all(map(is_plain, thing))
    return thing.__class__ in (int, str, bool)


def is_numbers(thing):
    """Whether it is made of tuples and whole numbers alone."""
    if thing.__class__ is tuple:
        return all(map(is_numbers, thing))
    return thing.__class__ is int


def check_kept(case, asked, *things):
    """What asked(*things) tells; the things are afterwards as they were, and the answer comes again."""
    before = copy.deepcopy(things)
    told = asked(*things)
    case.assertTrue(same_parts(before, things))
    case.assertTrue(same_parts(told, asked(*things)))
    return told


def tables_of(ins):
    """All tables of a gate with so many ins."""
    return [format(number, "b").zfill(1 << ins) for number in range(1 << (1 << ins))]


def made_net(chance, many, count, near=None):
    """A net by chance; near: how far back a gate reads."""
    gates = []
    for wires in range(many, many + count):
        size = chance.randint(1, 3)
        least = 0 if near is None else max(0, wires - near)
        ins = tuple(chance.randrange(least, wires) for place in range(size))
        table = "".join(chance.choice("01") for sign in range(1 << size))
        gates.append((table, ins))
    return (many, tuple(gates))


def made_nets(seed, many_nets, most_gates=8):
    """Nets by chance, the same each time."""
    chance = random.Random(seed)
    nets = []
    for number in range(many_nets):
        nets.append(made_net(chance, chance.randint(1, 6), chance.randint(1, most_gates), chance.choice([None, 2, 4])))
    return nets


def chain_of_three(count, table=MAJORITY):
    """A chain of gates each of whose three ins is the wire ahead."""
    return (1, tuple((table, (wire, wire, wire)) for wire in range(count)))


def great_net(count):
    """A net with many gates of one, two and three ins."""
    gates = []
    for number in range(count):
        wire = 2 + number
        choice = [("10", (wire - 1,)), (XOR, (wire - 2, wire - 1)), (MAJORITY, (0, wire - 2, wire - 1))]
        gates.append(choice[number % 3])
    return (2, tuple(gates))


def made_change(chance, many):
    """A change by chance: often of all inputs or of none."""
    a = tuple(chance.randint(0, 1) for place in range(many))
    kind = chance.randrange(4)
    if kind == 0:
        return (a, a)
    if kind == 1:
        return (a, tuple(1 - worth for worth in a))
    return (a, tuple(chance.randint(0, 1) for place in range(many)))


def made_delays(chance, net, most):
    """Delays of a net by chance, up to the most."""
    return tuple(tuple(chance.randint(0, most) for wire in ins) for table, ins in net[1])


def made_runs(seed, many_runs, most_gates=8, most_delay=4):
    """Nets, delays and changes by chance, the same each time."""
    chance = random.Random(seed)
    runs = []
    for net in made_nets(seed, many_runs, most_gates):
        runs.append((net, made_delays(chance, net, most_delay), made_change(chance, net[0])))
    return runs


def end_of(delays):
    """A time at which all wires stand still."""
    return sum(max(part) for part in delays)


def walked(net, delays, change, end):
    """The worths of all wires at the times from -1 to the end, by a walk through all of them."""
    a, b = change
    many, gates = net
    worths = list(a)
    for table, ins in gates:
        worths.append(int(table[int("".join(str(worths[wire]) for wire in ins), 2)]))
    still = tuple(worths)
    rows = [still]
    for time in range(end + 1):
        row = list(b)
        for (table, ins), lates in zip(gates, delays):
            signs = ""
            for wire, late in zip(ins, lates):
                then = time - late
                signs += str(still[wire] if then < 0 else row[wire] if then == time else rows[then + 1][wire])
            row.append(int(table[int(signs, 2)]))
        rows.append(tuple(row))
    return rows


def doubling_net(count):
    """A net and delays by which each gate changes twice as often as the wire ahead."""
    net = (1, tuple((XOR, (wire, wire)) for wire in range(count)))
    return net, tuple((0, 1 << wire) for wire in range(count))


def counted_net(number):
    """A net and delays, one input going from 0 to 1, whose last gate changes so many times (1 to 255), none more."""
    net, delays = doubling_net(7)
    gates, lates = list(net[1]), list(delays)
    wire = None
    shift = 0
    for power in range(8):
        if number >> power & 1 and wire is None:
            gates.append(("01", (power,)))
            lates.append((0,))
        elif number >> power & 1:
            gates.append((XOR, (wire, power)))
            lates.append((0, shift))
        else:
            continue
        wire = len(gates)
        shift += 1000
    return (1, tuple(gates)), tuple(lates)


def made_formula(chance, many, count, inner=7):
    """A formula by chance; inner: of ten readings so many of a gate, where one is left."""
    gates, left = [], []
    for wire in range(many, many + count):
        ins = []
        for place in range(chance.randint(1, 3)):
            if left and chance.randrange(10) < inner:
                ins.append(left.pop(chance.randrange(len(left))))
            else:
                ins.append(chance.randrange(many))
        gates.append(("".join(chance.choice("01") for sign in range(1 << len(ins))), tuple(ins)))
        left.append(wire)
    return (many, tuple(gates))


def made_formulas(seed, many_nets, most_gates=8):
    """Formulas and changes by chance, the same each time."""
    chance = random.Random(seed)
    made = []
    for number in range(many_nets):
        net = made_formula(chance, chance.randint(1, 6), chance.randint(1, most_gates), chance.choice([4, 7, 9]))
        made.append((net, made_change(chance, net[0])))
    return made


def chain_formula(count, table=XOR3):
    """A formula: a chain of gates, each of which reads the gate ahead and two inputs."""
    gates = [(table, (0, 1, 2))]
    for number in range(1, count):
        gates.append((table, (number + 2, number % 3, (number + 1) % 3)))
    return (3, tuple(gates))


def input_readings(net):
    """The readings (gate, place) of inputs."""
    many, gates = net
    return [(gate, place) for gate, (table, ins) in enumerate(gates) for place, wire in enumerate(ins) if wire < many]


def with_delays(net, readings, lates):
    """Delays of a net, 0 but at the readings told."""
    parts = [[0] * len(ins) for table, ins in net[1]]
    for (gate, place), late in zip(readings, lates):
        parts[gate][place] = late
    return tuple(map(tuple, parts))


def below(net, wire):
    """The wires that a wire hangs on, itself too."""
    many, gates = net
    found, open_wires = set(), [wire]
    while open_wires:
        one = open_wires.pop()
        if one not in found:
            found.add(one)
            open_wires += gates[one - many][1] if one >= many else ()
    return found


def not_formulas():
    """Nets that are no formulas."""
    return [
        (1, (("10", (0,)), (XOR, (1, 1)))),
        (1, (("00", (0,)), ("00", (1,)), ("11", (1,)))),
        (2, (("0001", (0, 1)), ("10", (0,)), (XOR3, (2, 0, 2)))),
        (6, (("10", (5,)), ("0001", (5, 6)), ("0001", (6, 7)))),
        (1, tuple(("10", (wire,)) for wire in range(39)) + (("0001", (38, 39)),)),
    ]


def all_products(many):
    """All products of so many inputs, sorted."""
    return ["".join(signs) for signs in itertools.product("-01", repeat=many)]


def all_rows(many):
    """All rows of so many inputs, rising."""
    return list(itertools.product((0, 1), repeat=many))


def all_changes(many):
    """All changes of so many inputs."""
    return list(itertools.product(all_rows(many), repeat=2))


def rows_in(product):
    """The rows that a product holds."""
    return frozenset(itertools.product(*[(0, 1) if sign == "-" else (int(sign),) for sign in product]))


def rows_of_cover(cover):
    """The rows of which a cover tells 1."""
    return frozenset().union(*map(rows_in, cover[1]))


def made_product(chance, many, literals=6):
    """A product by chance; literals: of ten places so many have one."""
    return "".join(chance.choice("01") if chance.randrange(10) < literals else "-" for place in range(many))


def made_covers(seed, many_covers, most_inputs=6, most_products=16):
    """Covers by chance, the same each time; now and then with the same product more than once."""
    chance = random.Random(seed)
    covers = []
    for number in range(many_covers):
        many = chance.randint(1, most_inputs)
        literals = chance.choice((4, 6, 8, 10))
        products = [made_product(chance, many, literals) for turn in range(chance.randint(0, most_products))]
        if products and chance.randrange(4) == 0:
            products[-1] = products[0]
        covers.append((many, tuple(products)))
    return covers


def cover_formula(cover):
    """A formula of a cover, in chains of two ins, and for each product the readings of its literals."""
    many, products = cover
    gates, readings, ends = [], [], []
    for product in products:
        wires, here = [], []
        for place, sign in enumerate(product):
            if sign != "-":
                here.append((len(gates), 0))
                wires.append(many + len(gates))
                gates.append(("10" if sign == "0" else "01", (place,)))
        ends.append(chained(many, gates, wires, "0001", "11"))
        readings.append(here)
    chained(many, gates, ends, "0111", "00")
    return (many, tuple(gates)), readings


def chained(many, gates, wires, table, empty):
    """The wire of a chain of gates over some wires."""
    if not wires:
        gates.append((empty, (0,)))
        return many + len(gates) - 1
    last = wires[0]
    for wire in wires[1:]:
        gates.append((table, (last, wire)))
        last = many + len(gates) - 1
    return last


def formula_delays(net, readings, delays):
    """Delays of a cover's formula, by those of the cover."""
    flat = [reading for part in readings for reading in part]
    return with_delays(net, flat, [late for part in delays for late in part])


def made_wishes(seed, many_wishes, most_inputs=4, most_changes=64):
    """Wishes by chance, the same each time: changes between rows of 1, of one input, of any kind."""
    chance = random.Random(seed)
    wishes = []
    for number in range(many_wishes):
        many = chance.randint(1, most_inputs)
        ones = chance.choice((3, 5, 7, 9, 10))
        table = "".join("1" if chance.randrange(10) < ones else "0" for row in range(1 << many))
        changes = made_changes(chance, many, table, chance.choice((0, 1, 2, 5, most_changes)))
        wishes.append((many, table, changes))
    return wishes


def made_changes(chance, many, table, count):
    """Changes by chance, of a kind by chance."""
    rows = all_rows(many)
    held = [row for row, sign in zip(rows, table) if sign == "1"] or rows
    kind = chance.randrange(4)
    changes = []
    for number in range(count):
        a, b = chance.choice(rows), chance.choice(rows)
        if kind == 0 or kind == 1 and chance.randrange(3):
            a, b = chance.choice(held), chance.choice(held)
        if kind == 2 or kind == 1:
            place = chance.randrange(many)
            b = a[:place] + (1 - a[place],) + a[place + 1:]
        changes.append((a, b))
    return tuple(changes)


def edges_of(many):
    """All changes of one input, both ways about, rising."""
    return [(a, b) for a, b in all_changes(many) if sum(one != other for one, other in zip(a, b)) == 1]


def others_of(thing):
    """Things that are like a thing but at one place, of all kinds."""
    made = [None, [], {}]
    if isinstance(thing, bool):
        made += [not thing, int(thing)]
    elif isinstance(thing, int):
        made += [thing + 1, thing - 1, str(thing), (thing,), thing + 10 ** 39] + [bool(thing)] * (thing in (0, 1))
    elif isinstance(thing, str):
        made += [thing + "0", thing[:-1], (thing,), thing + " ", thing.upper() + "!", 0]
        made += [thing[:at] + sign + thing[at + 1:] for at in range(len(thing)) for sign in "01-" if sign != thing[at]]
    elif isinstance(thing, tuple):
        made += [list(thing), thing + (thing,), thing + (None,), (thing,), dict(enumerate(thing)), ()]
        made += [thing[:at] + thing[at + 1:] for at in range(len(thing))]
        made += [thing[:at] + thing[at:at + 1] + thing[at:] for at in range(len(thing))]
        made += [thing[:at] + (thing[at + 1], thing[at]) + thing[at + 2:] for at in range(len(thing) - 1)]
        for at, part in enumerate(thing):
            made += [thing[:at] + (other,) + thing[at + 1:] for other in others_of(part)]
    return made


def made_leaf(chance, many):
    """A form without parts by chance: mostly an input."""
    kind = chance.randrange(14)
    return ("one",) if kind == 0 else ("nought",) if kind == 1 else ("in", chance.randrange(many))


def parted(chance, total, count):
    """So many numbers from 1 on by chance, with this sum."""
    cuts = sorted(chance.sample(range(1, total), count - 1))
    return [late - early for early, late in zip([0] + cuts, cuts + [total])]


def made_form(chance, many, parts):
    """A form by chance with just so many parts in all."""
    if parts == 1:
        return made_leaf(chance, many)
    if parts == 2 or chance.randrange(6) == 0:
        return ("not", made_form(chance, many, parts - 1))
    count = chance.randint(2, min(4, parts - 1))
    inner = tuple(made_form(chance, many, size) for size in parted(chance, parts - 1, count))
    return (chance.choice(("and", "or")), inner)


def within_ten(chance, many, parts):
    """A form by chance with just so many parts in all, at most ten within one another."""
    form = made_form(chance, many, parts)
    while depth_of(form) > 10:
        form = made_form(chance, many, parts)
    return form


def made_forms(seed, many_forms, most_inputs=6, most_parts=40):
    """Numbers of inputs and forms by chance, the same each time."""
    chance = random.Random(seed)
    made = []
    for number in range(many_forms):
        many = chance.randint(1, most_inputs)
        made.append((many, within_ten(chance, many, chance.randint(1, most_parts))))
    return made


def inner_parts(form):
    """The parts right within a form."""
    return (form[1],) if form[0] == "not" else form[1] if form[0] in ("and", "or") else ()


def depth_of(form):
    """How many forms stand within one another."""
    return 1 + max([depth_of(part) for part in inner_parts(form)], default=0)


def size_of(form):
    """How many parts a form has in all."""
    return 1 + sum(map(size_of, inner_parts(form)))


def inputs_in(form):
    """The numbers of the inputs written in a form, in order."""
    return [form[1]] if form[0] == "in" else [k for part in inner_parts(form) for k in inputs_in(part)]


def places_in(form):
    """All places in a form, each with the form there."""
    found = [((), form)]
    for number, part in enumerate(inner_parts(form)):
        found += [((number,) + place, inner) for place, inner in places_in(part)]
    return found


def put_in(form, place, new):
    """A form with another one at a place."""
    if not place:
        return new
    inner = list(inner_parts(form))
    inner[place[0]] = put_in(inner[place[0]], place[1:], new)
    return ("not", inner[0]) if form[0] == "not" else (form[0], tuple(inner))


def plain_worth(form, row):
    """The worth of a form by a row."""
    worths = [plain_worth(part, row) for part in inner_parts(form)]
    if form[0] == "in":
        return row[form[1]]
    return {"one": lambda: 1, "nought": lambda: 0, "not": lambda: 1 - worths[0], "and": lambda: int(all(worths)),
            "or": lambda: int(any(worths))}[form[0]]()


def form_formula(many, form):
    """A formula of a form, its last gate the form, and the readings of the inputs written in it, in order."""
    gates, readings = [], []

    def add(part):
        wires = [add(inner) for inner in inner_parts(part)]
        if part[0] == "in":
            readings.append((len(gates), 0))
            gates.append(("01", (part[1],)))
        elif part[0] in ("one", "nought"):
            gates.append(("11" if part[0] == "one" else "00", (0,)))
        elif part[0] == "not":
            gates.append(("10", (wires[0],)))
        else:
            chained(many, gates, wires, "0001" if part[0] == "and" else "0111", None)
        return many + len(gates) - 1

    add(form)
    return (many, tuple(gates)), readings


def tower_of(deep, many=6):
    """A form with so many within one another."""
    form = ("in", 0)
    for level in range(1, deep):
        other = ("in", level % many)
        form = [("and", (form, other)), ("or", (other, form, other)), ("not", form)][level % 3]
    return form


def worse_form(chance, many, form):
    """A form with the same worths that may show more: somewhere in it a part written again."""
    place, part = chance.choice(places_in(form))
    more = made_form(chance, many, chance.randint(1, 3))
    new = chance.choice([
        ("or", (part, ("and", (part, more)))), ("and", (part, ("or", (part, more)))), ("and", (part, part)),
        ("or", (("and", (part, more)), ("and", (part, ("not", more))))), ("or", (("and", (more, ("not", more))), part)),
        ("and", (("or", (more, part)), ("or", (("not", more), part)))), ("not", ("not", part))])
    return put_in(form, place, new)


def alike_forms(seed, many_pairs, most_inputs=4, most_parts=40):
    """Numbers of inputs and two forms with the same worths each, the same each time."""
    chance = random.Random(seed)
    made = []
    while len(made) < many_pairs:
        many = chance.randint(1, most_inputs)
        form = within_ten(chance, many, chance.randint(1, 12))
        pair = [form, form]
        for turn in range(chance.randint(1, 4)):
            side = chance.randrange(2)
            other = worse_form(chance, many, pair[side])
            if size_of(other) <= most_parts and depth_of(other) <= 10:
                pair[side] = other
        made.append((many, pair[0], pair[1]))
    return made


def made_tree(chance, many, gates, readings):
    """A formula by chance of so many gates and readings of inputs, all below its last gate."""
    pool = [chance.randrange(many) for reading in range(readings)]
    made = []
    for left in range(gates - 1, -1, -1):
        sizes = [size for size in (1, 2, 3) if size <= len(pool) and len(pool) - size <= 2 * left]
        size = chance.choice([size for size in sizes if left or size == len(pool)])
        chance.shuffle(pool)
        ins, pool = pool[:size], pool[size:]
        table = "01" if size == 1 else "".join(chance.choice("01") for sign in range(1 << size))
        made.append((table, tuple(ins)))
        pool.append(many + len(made) - 1)
    return (many, tuple(made))
