"""Terms: their parts, what their bound ones belong to, and their kinds."""

from slashwise.errors import NoKind
from slashwise.forms import kind_of_form


def parts_and_fns(term):
    """Each part with the fns around it, by their numbers in this very list, the outermost first.

    A part stands ahead of what is in it, what is in f ahead of what is in a.
    """
    rows = []
    todo = [(term, ())]
    while todo:
        part, fns = todo.pop()
        if part[0] == "fn":
            todo.append((part[2], fns + (len(rows),)))
        elif part[0] == "of":
            todo.extend([(part[2], fns), (part[1], fns)])
        rows.append((part, fns))
    return rows


def owner_of(fns, k):
    """The one of these fns to which a bound one with k other fns between belongs, or None."""
    if k >= len(fns):
        return None
    return fns[len(fns) - 1 - k]


def owners_in(term):
    """For each bound one of the term the number of its fn, or None."""
    return [owner_of(fns, part[1]) for part, fns in parts_and_fns(term) if part[0] == "bound"]


def size_of(term):
    """How many parts a term has."""
    return len(parts_and_fns(term))


def depth_of(term):
    """How deep a term is."""
    # Walked from its end, the list tells the depths of what is in a part ahead of that part.
    told = []
    for part, fns in reversed(parts_and_fns(term)):
        if part[0] == "of":
            told.append(1 + max(told.pop(), told.pop()))
        elif part[0] == "fn":
            told.append(1 + told.pop())
        else:
            told.append(0)
    return told[0]


def is_closed(term):
    """Whether each bound one belongs to a fn of the term."""
    return None not in owners_in(term)


def is_sparing(term):
    """Whether to each fn of the term at most one bound one belongs."""
    owners = [owner for owner in owners_in(term) if owner is not None]
    return len(set(owners)) == len(owners)


def kind_of(names, term):
    """The kind of a term by the pairs (name, kind), or NoKind."""
    kinds = {name: kind for name, kind in names}
    rows = parts_and_fns(term)
    # Walked from its end, the list tells f's kind last ahead of an of, and a's just below it.
    told = []
    for part, fns in reversed(rows):
        if part[0] == "of":
            wanting = told.pop()
            given = told.pop()
            told.append(kind_of_of(wanting, given))
        elif part[0] == "fn":
            told.append((part[1], told.pop()))
        elif part[0] == "name":
            told.append(kind_of_name(kinds, part[1]))
        elif part[0] == "leaf":
            told.append(kind_of_form(part[2]))
        else:
            told.append(kind_of_bound(rows, fns, part[1]))
    return told[0]


def kind_of_of(wanting, given):
    """The kind of an of, by f's kind and a's kind."""
    if not isinstance(wanting, tuple) or wanting[0] != given:
        raise NoKind("f's kind is no pair that begins with a's kind")
    return wanting[1]


def kind_of_name(kinds, name):
    """The kind of a name, by a dict of kinds."""
    if name not in kinds:
        raise NoKind("a name has no pair")
    return kinds[name]


def kind_of_bound(rows, fns, k):
    """The kind of a bound one: that of its fn."""
    owner = owner_of(fns, k)
    if owner is None:
        raise NoKind("a bound one belongs to no fn")
    fn = rows[owner][0]
    return fn[1]
