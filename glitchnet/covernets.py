"""Waves of covers, delays that show their to and fro, and nets of them."""

from glitchnet.covers import judged, told_of

# The delays that a literal is given, by whether it is met by the row ahead
# of the change (at 1) or not (at 0), to have its product so at the times 0 and 1.
BOTH_DOWN = (2, 0)
UP_THEN_DOWN = (0, 1)
DOWN_THEN_UP = (1, 2)


def literals_of(product):
    """The places of a product's signs 0 and 1, rising."""
    return [place for place, sign in enumerate(product) if sign != "-"]


def cover_wave(cover, delays, change):
    """The wave of a cover, by a delay for each literal of each product."""
    first = told_of(cover, change[0])
    now = first
    times = []
    for time in sorted(set([delay for part in delays for delay in part])):
        if told_at(cover, delays, change, time) != now:
            now = 1 - now
            times.append(time)
    return first, tuple(times)


def told_at(cover, delays, change, time):
    """What a cover tells at a time from 0 on."""
    return 1 if any(holds_at(product, part, change, time) for product, part in zip(cover[1], delays)) else 0


def holds_at(product, part, change, time):
    """Whether all literals of a product are met at a time from 0 on."""
    a, b = change
    for place, delay in zip(literals_of(product), part):
        worth = a[place] if time < delay else b[place]
        if product[place] != str(worth):
            return False
    return True


def cover_shown(cover, change):
    """Delays, 0, 1 or 2 each, by which a cover goes to and fro, or None where its word has no fro."""
    verdict = judged(cover, change)
    if verdict[0] not in ("gap", "meets"):
        return None
    # Without a product that holds both rows all can be down at the times 0 and 1.
    ways = [BOTH_DOWN for product in cover[1]]
    if verdict[0] == "meets":
        ways[verdict[1]] = DOWN_THEN_UP if told_of(cover, change[0]) else UP_THEN_DOWN
    return tuple(lates_by(product, change[0], way) for product, way in zip(cover[1], ways))


def lates_by(product, row, way):
    """A product's delays, by whether the row meets its literals."""
    return tuple(way[1] if product[place] == str(row[place]) else way[0] for place in literals_of(product))


def cover_net(cover):
    """A formula whose last gate is the cover."""
    many, products = cover
    gates = []
    wires = [add_product(many, gates, product) for product in products]
    if wires:
        add_or(many, gates, wires)
    else:
        gates.append(("00", (0,)))
    return many, tuple(gates)


def add_gate(many, gates, table, ins):
    """The wire of one more gate."""
    gates.append((table, tuple(ins)))
    return many + len(gates) - 1


def add_product(many, gates, product):
    """The wire of the last gate of a product, which is added gate by gate."""
    places = literals_of(product)
    signs = product.replace("-", "")
    if not places:
        return add_gate(many, gates, "11", (0,))
    wire = add_gate(many, gates, and_table(signs[:3]), places[:3])
    for at in range(3, len(places), 2):
        wire = add_gate(many, gates, and_table("1" + signs[at:at + 2]), [wire] + places[at:at + 2])
    return wire


def and_table(signs):
    """The table that tells 1 just where the ins have these signs."""
    size = 1 << len(signs)
    number = 0
    for sign in signs:
        number = 2 * number + int(sign)
    return "0" * number + "1" + "0" * (size - number - 1)


def add_or(many, gates, wires):
    """The wire of the or of some wires, parted by three: so of sixteen products no gate ahead of the last one changes
    more than twelve times."""
    if len(wires) == 1:
        return wires[0]
    parts = [wires[at::3] for at in range(min(3, len(wires)))]
    ins = [add_or(many, gates, part) for part in parts]
    return add_gate(many, gates, "0" + "1" * ((1 << len(ins)) - 1), ins)
