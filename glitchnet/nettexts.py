"""Nets and changes, written and read."""

from glitchnet.errors import NoText
from glitchnet.kinds import is_signs
from glitchnet.nets import is_net

# Longer than every number that is right anywhere, and far from the
# lengths at which Python itself no longer turns figures into a number.
MOST_FIGURES = 40


def show_net(net):
    """The text of a net."""
    many, gates = net
    lines = [f"inputs {many}"]
    for table, ins in gates:
        lines.append(" ".join([table] + [str(wire) for wire in ins]))
    return "\n".join(lines)


def read_net(text):
    """The net that a text writes; NoText of anything else."""
    if not isinstance(text, str):
        raise NoText("a net is read from a text")
    head, *lines = text.split("\n")
    net = (read_head(head), tuple([read_gate(line) for line in lines]))
    if not is_net(net):
        raise NoText("this text writes no net")
    return net


def read_head(line):
    """The number of inputs that a net's first line writes, or None."""
    words = line.split(" ")
    if len(words) != 2 or words[0] != "inputs":
        return None
    return read_number(words[1])


def read_gate(line):
    """A table and ins, as a line writes them, be they right or not."""
    table, *wires = line.split(" ")
    return table, tuple([read_number(wire) for wire in wires])


def read_number(word):
    """The whole number that a word writes, or None."""
    if not 1 <= len(word) <= MOST_FIGURES:
        return None
    if not all(sign in "0123456789" for sign in word):
        return None
    if word[0] == "0" and word != "0":
        return None
    return int(word)


def show_row(row):
    """The text of a row."""
    return "".join(str(worth) for worth in row)


def show_change(change):
    """The text of a change."""
    a, b = change
    return f"{show_row(a)} to {show_row(b)}"


def read_change(many, text):
    """The change of so many inputs that a text writes; NoText of anything else."""
    if not isinstance(text, str):
        raise NoText("a change is read from a text")
    rows = text.split(" to ")
    if len(rows) != 2 or not all(is_signs(many, row) for row in rows):
        raise NoText("this text writes no change")
    a, b = rows
    return read_row(a), read_row(b)


def read_row(signs):
    """The row that a text of signs 0 and 1 writes."""
    return tuple(int(sign) for sign in signs)
