"""Kinds: texts of small letters, and pairs of kinds, from and to."""

from slashwise.errors import NoKind
from slashwise.texts import is_name, many_names, pieces_of

MOST_TEXTS = 12
SIGNS = ("(", ">")


def read_kind(text):
    """The kind that is written so; whatever else is handed in is refused with NoKind."""
    if not isinstance(text, str):
        raise NoKind("a kind is read of a text alone")
    pieces = pieces_of(text)
    if many_names(pieces) > MOST_TEXTS:
        raise NoKind("a kind that is read has at most twelve texts")
    # Kinds that are read, and the signs that still wait: brackets of any depth need no calls of their own.
    stack = []
    for piece in pieces:
        if piece == ")":
            close_pair(stack)
        elif piece in SIGNS or is_name(piece):
            stack.append(piece)
        else:
            raise NoKind("a kind is written of names, brackets and > alone")
    if len(stack) != 1 or stack[0] in SIGNS:
        raise NoKind("a kind is written as a name or as (FROM>TO)")
    return stack[0]


def close_pair(stack):
    """Put the pair that ends here in the place of its pieces on the stack."""
    ended = stack[-4:]
    if len(ended) != 4 or ended[0] != "(" or ended[2] != ">" or ended[1] in SIGNS or ended[3] in SIGNS:
        raise NoKind("a pair is written (FROM>TO)")
    del stack[-4:]
    stack.append((ended[1], ended[3]))


def show_kind(kind):
    """The text of a kind."""
    # The kind of a term may be as deep as the term, so what is still to show is kept in a list.
    todo = [kind]
    shown = []
    while todo:
        part = todo.pop()
        if isinstance(part, str):
            shown.append(part)
        else:
            todo.extend([")", part[1], ">", part[0], "("])
    return "".join(shown)
