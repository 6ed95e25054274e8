"""Forms: what a word wants beside it, and what it is then."""

from slashwise.errors import NoForm
from slashwise.texts import is_name, many_names, pieces_of

MOST_BASICS = 12
SLASHES = ("/", "\\")


def is_form(thing):
    """Whether anything at all is a form."""
    todo = [thing]
    basics = 0
    while todo:
        # Each thing still to do would bear a basic one, so what is nested too deep is left early.
        if basics + len(todo) > MOST_BASICS:
            return False
        part = todo.pop()
        if is_headed(part, ("basic",), 2) and is_name(part[1]):
            basics += 1
        elif is_headed(part, SLASHES, 3):
            todo.extend([part[2], part[1]])
        else:
            return False
    return True


def is_headed(thing, heads, size):
    """Whether anything at all is a tuple of this size whose first thing is one of the heads."""
    if not isinstance(thing, tuple) or len(thing) != size:
        return False
    # Other things than texts may answer a comparison in their own way, so they are not asked.
    return isinstance(thing[0], str) and thing[0] in heads


def read_form(text):
    """The form that is written so; whatever else is handed in is refused with NoForm."""
    if not isinstance(text, str):
        raise NoForm("a form is read of a text alone")
    pieces = pieces_of(text)
    if many_names(pieces) > MOST_BASICS:
        raise NoForm("a form has at most twelve basic ones")
    # Forms that are read, and the signs that still wait: brackets of any depth need no calls of their own.
    stack = []
    for piece in pieces:
        if piece == ")":
            close_bracket(stack)
        elif piece == "(" or piece in SLASHES:
            stack.append(piece)
        elif is_name(piece):
            lay_form(stack, ("basic", piece))
        else:
            raise NoForm("a form is written of names, slashes and brackets alone")
    if len(stack) != 1 or not isinstance(stack[0], tuple):
        raise NoForm("a form is written X, a slash, Y")
    return stack[0]


def lay_form(stack, form):
    """Lay a form on the stack; behind an X and a slash it is their Y."""
    if awaits_right(stack):
        slash = stack.pop()
        left = stack.pop()
        stack.append((slash, left, form))
    else:
        stack.append(form)


def awaits_right(stack):
    """Whether the stack ends with an X and a slash."""
    return len(stack) > 1 and stack[-1] in SLASHES and isinstance(stack[-2], tuple)


def close_bracket(stack):
    """Take the bracket that ends here, and its form, off the stack, and lay the form as a Y."""
    if len(stack) < 2 or stack[-2] != "(" or not isinstance(stack[-1], tuple):
        raise NoForm("a bracket ends that holds no form")
    form = stack.pop()
    stack.pop()
    if form[0] == "basic" or not awaits_right(stack):
        raise NoForm("brackets stand round a Y that isn't basic, and nowhere else")
    lay_form(stack, form)


def show_form(form):
    """The text of a form."""
    if form[0] == "basic":
        return form[1]
    slash, left, right = form
    shown = show_form(right)
    if right[0] != "basic":
        shown = f"({shown})"
    return show_form(left) + slash + shown


def parts_of(form):
    """The parts of a form: itself, then those of its X, then those of its Y."""
    if form[0] == "basic":
        return [form]
    return [form] + parts_of(form[1]) + parts_of(form[2])


def kind_of_form(form):
    """The kind of a form: from what it wants to what it is then."""
    if form[0] == "basic":
        return form[1]
    return (kind_of_form(form[2]), kind_of_form(form[1]))
