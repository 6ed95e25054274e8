"""The places of a term that are to be done, what comes of it there, and its plain form."""

from slashwise.errors import NoPlace
from slashwise.terms import parts_and_fns


def inner_of(part):
    """What stands straight in a part, each one by its number in a place."""
    if part[0] == "fn":
        return (part[2],)
    if part[0] == "of":
        return (part[1], part[2])
    return ()


def is_to_do(part):
    """Whether a part is an of whose f is a fn."""
    return part[0] == "of" and part[1][0] == "fn"


def places(term):
    """The places to be done: an of ahead of what is in it, what is in f ahead of what is in a."""
    found = []
    todo = [(term, ())]
    while todo:
        part, place = todo.pop()
        if is_to_do(part):
            found.append(place)
        inner = inner_of(part)
        # What is added last is looked at first.
        todo.extend([(inner[k], place + (k,)) for k in reversed(range(len(inner)))])
    return found


def done_at(term, place):
    """The term with the part at this place done, or NoPlace."""
    way = way_to(term, place)
    part = way.pop()
    if not is_to_do(part):
        raise NoPlace("the place leads to no of whose f is a fn")
    done = put_in(part[1][2], part[2])
    while way:
        outer = way.pop()
        done = with_inner(outer, place[len(way)], done)
    return done


def way_to(term, place):
    """The parts from the term itself down to the one at this place, or NoPlace."""
    way = [term]
    for k in place:
        inner = inner_of(way[-1])
        if k < 0 or k >= len(inner):
            raise NoPlace("the place leads nowhere")
        way.append(inner[k])
    return way


def with_inner(part, k, new):
    """A part with a new one in the place of the one with number k that stands straight in it."""
    if part[0] == "fn":
        return ("fn", part[1], new)
    if k == 0:
        return ("of", new, part[2])
    return ("of", part[1], new)


def put_in(body, a):
    """The body of a fn, without that fn, with a in the place of each bound one that belongs to it."""
    return with_bound_ones(body, [put_for(k, fns, a) for k, fns in bound_ones(body)])


def put_for(k, fns, a):
    """What comes in the place of a bound one of a body, by the number of fns around it there."""
    if k < fns:
        return ("bound", k)
    if k == fns:
        return raised(a, fns)
    # It belongs to a fn further out, and the one between is gone.
    return ("bound", k - 1)


def raised(term, more):
    """A term, counted anew for a place with so many more fns around it."""
    return with_bound_ones(term, [("bound", k if k < fns else k + more) for k, fns in bound_ones(term)])


def bound_ones(term):
    """The k of each bound one, with the number of the term's fns around it, in the order of the parts."""
    return [(part[1], len(fns)) for part, fns in parts_and_fns(term) if part[0] == "bound"]


def with_bound_ones(term, news):
    """The term with these terms in the places of its bound ones, in the order of the parts."""
    rest = list(news)
    # Walked from its end, the list of parts tells f last ahead of an of, and a just below it.
    told = []
    for part, fns in reversed(parts_and_fns(term)):
        if part[0] == "bound":
            told.append(rest.pop())
        elif part[0] == "fn":
            told.append(("fn", part[1], told.pop()))
        elif part[0] == "of":
            f = told.pop()
            told.append(("of", f, told.pop()))
        else:
            told.append(part)
    return told[0]


def steps_of(term):
    """The term, then what comes of it by the first place to be done, and so on, up to a plain one."""
    steps = [term]
    found = places(term)
    while found:
        steps.append(done_at(steps[-1], found[0]))
        found = places(steps[-1])
    return steps


def plain_of(term):
    """The plain form of a term."""
    return steps_of(term)[-1]


def is_plain_term(term):
    """Whether a term has no place to be done."""
    return not places(term)
