"""Things of every sort, for the points that speak of anything, and what the tests of terms build terms with."""

from slashwise.errors import SlashError
from slashwise.forms import read_form
from slashwise.kinds import read_kind


class Agreeable:
    """Says of everything that it is equal to it."""

    def __eq__(self, other):
        return True

    def __hash__(self):
        return 0


class Quarrelsome:
    """Can't be compared, measured, walked or asked for its truth."""

    def __eq__(self, other):
        raise RuntimeError("compared")

    def __len__(self):
        raise RuntimeError("measured")

    def __iter__(self):
        raise RuntimeError("walked")

    def __bool__(self):
        raise RuntimeError("asked")

    __hash__ = None


def no_texts():
    """Things that are no texts and no tuples of texts that would be forms."""
    return [
        None, True, False, 0, 1, -7, 10 ** 40, b"", b"s", bytearray(b"s"), [], ["s"], (), ("s",), {}, {"s": "s"},
        set(), frozenset(["s"]), object(), Agreeable(), Quarrelsome(), len, str, range(3), ["basic", "s"],
    ]


def nested(depth, inner, wrap):
    """The inner thing, wrapped this often."""
    thing = inner
    for k in range(depth):
        thing = wrap(thing)
    return thing


def fn(kind, body):
    return ("fn", read_kind(kind), body)


def of(f, *given):
    for a in given:
        f = ("of", f, a)
    return f


def bound(k):
    return ("bound", k)


def leaf(place, form):
    return ("leaf", place, read_form(form))


def refusal(deed, *given):
    """The class and the fields of what a deed is refused with, or None where it is not refused."""
    try:
        deed(*given)
    except SlashError as error:
        return (type(error), vars(error))
    return None
