"""The texts of terms without leaves."""

from slashwise.errors import NoKind, NoTerm
from slashwise.kinds import read_kind, show_kind
from slashwise.terms import depth_of, is_closed, size_of
from slashwise.texts import LETTERS, is_name

MOST_PARTS = 30
MOST_DEEP = 12
FIGURES = "0123456789"
BRACKETS = ("(", ")")


def read_term(text):
    """The term that is written so; whatever else is handed in is refused with NoTerm."""
    if not isinstance(text, str):
        raise NoTerm("a term is read of a text alone")
    tokens = tokens_of(text)
    # Each of these is a part, so a term that is far too large is not even put together.
    if len([token for token in tokens if token not in BRACKETS]) > MOST_PARTS:
        raise NoTerm("a term that is read has at most thirty parts")
    term = term_of_tokens(tokens)
    if size_of(term) > MOST_PARTS or depth_of(term) > MOST_DEEP:
        raise NoTerm("a term that is read has at most thirty parts and is at most twelve deep")
    if not is_closed(term):
        raise NoTerm("a bound one belongs to no fn")
    return term


def tokens_of(text):
    """The tokens of a text: names and bound ones as terms, ("fn", kind) for `[KIND]`, and the brackets."""
    tokens = []
    at = 0
    while at < len(text):
        end = token_end(text, at)
        tokens.append(token_of(text[at:end]))
        at = end
    return tokens


def token_end(text, at):
    """Where the token that begins there ends."""
    if text[at] == "[":
        end = text.find("]", at)
        return len(text) if end < 0 else end + 1
    if text[at] == "#":
        return run_end(text, at + 1, FIGURES)
    if text[at] in LETTERS:
        return run_end(text, at + 1, LETTERS)
    return at + 1


def run_end(text, at, signs):
    """Where the run of these signs ends that begins there."""
    while at < len(text) and text[at] in signs:
        at += 1
    return at


def token_of(piece):
    """The token that is written so."""
    if piece in BRACKETS:
        return piece
    if is_name(piece):
        return ("name", piece)
    if piece[0] == "#":
        return ("bound", read_number(piece[1:]))
    if piece[0] == "[" and piece[-1] == "]":
        return ("fn", read_fn_kind(piece[1:-1]))
    raise NoTerm("a term is written of names, bound ones, kinds of fns and brackets alone")


def read_number(figures):
    """The number that is written so, no nought ahead but in 0 itself."""
    if figures == "" or (figures[0] == "0" and figures != "0"):
        raise NoTerm("a bound one is written # and its figures, no nought ahead")
    # A term of at most thirty parts has no hundred fns, so no larger number needs to be reckoned.
    if len(figures) > 2:
        raise NoTerm("a bound one belongs to no fn")
    return int(figures)


def read_fn_kind(text):
    """The kind of a fn."""
    try:
        return read_kind(text)
    except NoKind:
        raise NoTerm("a fn has no kind") from None


def term_of_tokens(tokens):
    """The term of these tokens, however large and deep."""
    # What still waits: ("fn", kind) for its body, ("of", f) for its a and the closing bracket behind it, and
    # ("of", None) for the fn, and the closing bracket behind it, where the bracket is f's own.
    waiting = []
    term = None
    for token in tokens:
        if token == ")":
            term = close_bracket(waiting, with_fns(waiting, term))
        elif token == "(":
            waiting.append(("of", unwrapped(term)))
            term = None
        elif term is not None:
            raise NoTerm("behind a term stands a bracket or nothing")
        elif token[0] == "fn":
            waiting.append(token)
        else:
            term = token
    term = with_fns(waiting, term)
    if waiting:
        raise NoTerm("a bracket has no end")
    return term


def with_fns(waiting, term):
    """The term that ends here, with the fns that waited for it as their body."""
    if term is None or term[0] == "brackets":
        raise NoTerm("a body, or what stands in brackets or behind them, is missing")
    while waiting and waiting[-1][0] == "fn":
        fn = waiting.pop()
        term = ("fn", fn[1], term)
    return term


def close_bracket(waiting, term):
    """What ends with a closing bracket: an of, or a fn in brackets of its own, ("brackets", fn)."""
    if not waiting:
        raise NoTerm("a bracket ends that did not begin")
    f = waiting.pop()[1]
    if f is not None:
        return ("of", f, term)
    if term[0] != "fn":
        raise NoTerm("brackets of its own has an f that is a fn alone")
    return ("brackets", term)


def unwrapped(term):
    """The f ahead of an opening bracket, a fn without its own brackets; None where there is none."""
    if term is not None and term[0] == "brackets":
        return term[1]
    return term


def show_term(term):
    """The text of a term without leaves."""
    # A term may be deeper than calls should go, so what is still to show is kept in a list.
    todo = [term]
    shown = []
    while todo:
        part = todo.pop()
        if isinstance(part, str):
            shown.append(part)
        elif part[0] == "name":
            shown.append(part[1])
        elif part[0] == "bound":
            shown.append("#" + str(part[1]))
        elif part[0] == "fn":
            shown.append("[" + show_kind(part[1]) + "]")
            todo.append(part[2])
        elif part[1][0] == "fn":
            todo.extend([")", part[2], "(", ")", part[1], "("])
        else:
            todo.extend([")", part[2], "(", part[1]])
    return "".join(shown)
