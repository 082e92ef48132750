"""Forms, written and read."""

from glitchnet.errors import NoText
from glitchnet.forms import is_form
from glitchnet.kinds import is_whole
from glitchnet.nettexts import read_number


def show_form(form):
    """The text of a form."""
    head = form[0]
    if head == "in":
        return f"in {form[1]}"
    if head == "not":
        return f"not {show_form(form[1])}"
    if head == "and" or head == "or":
        inner = " ".join(show_form(part) for part in form[1])
        return f"{head} ( {inner} )"
    return head


def read_form(many, text):
    """The form of so many inputs that a text writes; NoText of anything else."""
    if not isinstance(text, str):
        raise NoText("a form is read from a text")
    # From the last word to the first: so what a word needs has been read already, however deep it stands.
    stack = []
    for word in reversed(text.split(" ")):
        stack.append(read_word_of_form(word, stack))
    if len(stack) != 1 or not is_form(many, stack[0]):
        raise NoText("this text writes no form")
    return stack[0]


def read_word_of_form(word, stack):
    """What a word writes with what stands behind it, which is taken off the stack: a form as a tuple, the parts
    between brackets as a list, a number, or a bracket as a text."""
    if word == ")":
        return word
    if word == "(":
        return read_parts(stack)
    if word == "one" or word == "nought":
        return (word,)
    number = read_number(word)
    if number is not None:
        return number
    behind = stack.pop() if stack else None
    if word == "in" and is_whole(behind):
        return word, behind
    if word == "not" and isinstance(behind, tuple):
        return word, behind
    if (word == "and" or word == "or") and isinstance(behind, list):
        return word, tuple(behind)
    raise NoText("this text writes no form")


def read_parts(stack):
    """The forms up to the next bracket that shuts."""
    parts = []
    while stack and isinstance(stack[-1], tuple):
        parts.append(stack.pop())
    if not stack or stack.pop() != ")":
        raise NoText("a bracket isn't shut")
    return parts
