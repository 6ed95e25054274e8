"""The four rules that put two neighbours together: the form that they make, and what it means."""

from slashwise.forms import kind_of_form

SIGNS = (">", "<", ">>", "<<")


def made(left, right):
    """The sign and the form that the rules make of two forms, or None; at most one rule makes anything."""
    if left[0] == "/":
        if left[2] == right:
            return (">", left[1])
        if right[0] == "/" and left[2] == right[1]:
            return (">>", ("/", left[1], right[2]))
    if right[0] == "\\":
        if right[2] == left:
            return ("<", right[1])
        if left[0] == "\\" and right[2] == left[1]:
            return ("<<", ("\\", right[1], left[2]))
    return None


def meant(sign, left, right, first, second):
    """The term that a rule means, of two forms that it puts together and of their meanings."""
    if sign == ">":
        return ("of", first, second)
    if sign == "<":
        return ("of", second, first)
    # Both meanings are closed, so nothing in them is counted anew within the new fn.
    if sign == ">>":
        return joined(right[2], first, second)
    return joined(left[2], second, first)


def joined(wanted, f, g):
    """The fn that takes what has the wanted form, and is f of g of it."""
    return ("fn", kind_of_form(wanted), ("of", f, ("of", g, ("bound", 0))))
