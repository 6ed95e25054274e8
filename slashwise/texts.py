"""What all written things share: names, and the pieces of a text."""

LETTERS = "abcdefghijklmnopqrstuvwxyz"
LONGEST_NAME = 8


def is_name(thing):
    """Whether anything at all is a text of one to eight small letters."""
    if not isinstance(thing, str) or len(thing) == 0 or len(thing) > LONGEST_NAME:
        return False
    return all([sign in LETTERS for sign in thing])


def pieces_of(text):
    """The pieces of a text in order: each run of small letters whole, each other sign by itself."""
    pieces = []
    run = ""
    for sign in text:
        if sign in LETTERS:
            run += sign
            continue
        if run != "":
            pieces.append(run)
            run = ""
        pieces.append(sign)
    if run != "":
        pieces.append(run)
    return pieces


def many_names(pieces):
    """How many of the pieces are names."""
    return len([piece for piece in pieces if is_name(piece)])
