"""A desk: rows of words, answered by texts."""

from glitchnet.counting import greatest
from glitchnet.covers import is_cover, judged
from glitchnet.errors import NoRow, NotFormula, NoText, TooMany
from glitchnet.formnets import form_word
from glitchnet.forms import depth_of, parts_in
from glitchnet.formtexts import read_form
from glitchnet.leasts import least_free
from glitchnet.mending import mended
from glitchnet.nets import MOST_INPUTS
from glitchnet.nettexts import read_change, read_net, read_number
from glitchnet.networds import words_of
from glitchnet.running import waves_of
from glitchnet.showing import shown
from glitchnet.wishes import MOST_WISHED, is_wish
from glitchnet.wording import show_word

MOST_GATES = 40
MOST_PRODUCTS = 16
MOST_CHANGES = 64
MOST_PARTS = 40
MOST_DEPTH = 10
MOST_DELAY = 10 ** 30


def refuse_unless(right):
    """NoRow where what a row writes isn't right there."""
    if not right:
        raise NoRow("this row isn't right")


def joined(things):
    """The texts of some things, a blank between two."""
    return " ".join(str(thing) for thing in things)


def sides_of(rest):
    """The two texts that a colon parts."""
    sides = rest.split(" : ")
    refuse_unless(len(sides) == 2)
    return sides


def read_small_net(text):
    """The net that a text writes, of at most forty gates."""
    net = read_net(text)
    refuse_unless(len(net[1]) <= MOST_GATES)
    return net


def read_delays(net, text):
    """The delays of all readings of a net, in order."""
    left = [read_number(word) for word in text.split(" ")]
    refuse_unless(all(delay is not None and delay <= MOST_DELAY for delay in left))
    refuse_unless(len(left) == sum(len(ins) for table, ins in net[1]))
    delays = []
    for table, ins in net[1]:
        delays.append(tuple(left[:len(ins)]))
        left = left[len(ins):]
    return tuple(delays)


def read_cover(text, most_inputs):
    """The cover of the products that a text writes, of one to sixteen."""
    products = tuple(text.split(" "))
    cover = (len(products[0]), products)
    refuse_unless(is_cover(cover) and cover[0] <= most_inputs and len(products) <= MOST_PRODUCTS)
    return cover


def parts_with_changes(rest):
    """What stands ahead of the colon, and the texts of the changes behind it, perhaps none."""
    if rest.endswith(" :"):
        return rest[:-2], []
    ahead, behind = sides_of(rest)
    texts = behind.split(", ")
    refuse_unless(len(texts) <= MOST_CHANGES)
    return ahead, texts


def read_changes(many, texts):
    """The changes that some texts write."""
    return tuple([read_change(many, text) for text in texts])


def words_row(net, rest):
    """The words of all wires."""
    change = read_change(net[0], rest)
    return joined([show_word(word) for word in words_of(net, change)])


def most_row(net, rest):
    """The greatest numbers of all wires."""
    return joined(greatest(net, read_change(net[0], rest)))


def run_row(net, rest):
    """The waves of all wires."""
    ahead, behind = sides_of(rest)
    change = read_change(net[0], ahead)
    waves = waves_of(net, read_delays(net, behind), change)
    return " / ".join(joined((first,) + times) for first, times in waves)


def shows_row(net, rest):
    """Delays that show a wire's to and fro."""
    word, blank, text = rest.partition(" ")
    wire = read_number(word)
    change = read_change(net[0], text)
    refuse_unless(wire is not None and wire < net[0] + len(net[1]))
    delays = shown(net, change, wire)
    if delays is None:
        return "never"
    return joined([delay for part in delays for delay in part])


def cover_row(rest):
    """How a cover is judged at a change."""
    ahead, behind = sides_of(rest)
    cover = read_cover(ahead, MOST_INPUTS)
    return joined(judged(cover, read_change(cover[0], behind)))


def least_row(rest):
    """How many products the least free cover has."""
    table, texts = parts_with_changes(rest)
    # A table of so many inputs has as many signs as there are rows.
    many = len(table).bit_length() - 1
    wish = (many, table, read_changes(many, texts))
    refuse_unless(is_wish(wish))
    told = least_free(wish)
    if told[0] == "none":
        return f"none {told[1]}"
    return str(len(told[1][1]))


def mend_row(rest):
    """How many products more mend a cover."""
    ahead, texts = parts_with_changes(rest)
    cover = read_cover(ahead, MOST_WISHED)
    told = mended(cover, read_changes(cover[0], texts))
    if told[0] == "more":
        return str(len(told[1]))
    return f"{told[0]} {told[1]}"


def form_row(rest):
    """The word of a form at a change."""
    ahead, behind = sides_of(rest)
    many = len(behind.partition(" to ")[0])
    refuse_unless(1 <= many <= MOST_INPUTS)
    change = read_change(many, behind)
    form = read_form(many, ahead)
    refuse_unless(parts_in(form) <= MOST_PARTS and depth_of(form) <= MOST_DEPTH)
    return show_word(form_word(form, change))


NET_ROWS = {"words": words_row, "most": most_row, "run": run_row, "shows": shows_row}
PLAIN_ROWS = {"cover": cover_row, "least": least_row, "mend": mend_row, "form": form_row}


class Desk:
    """A desk with a net, at first none."""

    def __init__(self):
        self.net = None

    def say(self, text):
        """The answer to a row; NoRow, and nothing is changed, where it is none."""
        refuse_unless(isinstance(text, str))
        head, blank, rest = text.partition(" ")
        try:
            return self.answer(head, rest)
        except NoText:
            raise NoRow("this row isn't right") from None
        except TooMany:
            return "too many"
        except NotFormula:
            return "no formula"

    def answer(self, head, rest):
        """The answer to a row, by its first word and the rest of it."""
        if head == "net":
            self.net = read_small_net(rest)
            return "ok"
        if head in NET_ROWS:
            refuse_unless(self.net is not None)
            net_row = NET_ROWS[head]
            return net_row(self.net, rest)
        refuse_unless(head in PLAIN_ROWS)
        plain_row = PLAIN_ROWS[head]
        return plain_row(rest)
