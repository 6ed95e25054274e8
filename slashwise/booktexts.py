"""The texts of books, row by row."""

from slashwise.errors import Misfit, NoBasic, NoForm, NoKind, NoRow, NoTerm, Twice
from slashwise.forms import kind_of_form, read_form, show_form
from slashwise.kinds import read_kind, show_kind
from slashwise.terms import is_sparing, kind_of, parts_and_fns
from slashwise.termtexts import read_term, show_term
from slashwise.texts import is_name

ANY = "any"
MOST_BASICS = 8
MOST_NAMES = 20
MOST_TRIPLES = 40
MOST_OF_A_WORD = 8
MOST_IN_A_FORM = 6


def read_book(text):
    """The book that is written so; the first wrong row is refused with NoRow, NoBasic, Twice or Misfit."""
    if not isinstance(text, str):
        raise NoRow(0)
    basics = []
    names = []
    triples = []
    for row, line in enumerate(text.split("\n"), start=1):
        words = line.split(" ")
        if row == 1:
            basics = read_basics(row, words)
        elif words[0] == "name" and not triples:
            names.append(read_pair(row, words, basics, names))
        elif words[0] == "word":
            triples.extend(read_triples(row, words, (basics, names, triples)))
        else:
            raise NoRow(row)
    return (tuple(basics), tuple(names), tuple(triples))


def read_basics(row, words):
    """The basics that the row `basics` tells."""
    basics = words[1:]
    if words[0] != "basics" or not basics or len(basics) > MOST_BASICS:
        raise NoRow(row)
    for basic in basics:
        if not is_name(basic) or basic == ANY:
            raise NoRow(row)
    if len(set(basics)) < len(basics):
        raise Twice(row)
    return basics


def read_pair(row, words, basics, names):
    """The pair that a row `name` tells, behind these basics and names."""
    if len(words) != 3 or not is_name(words[1]) or len(names) >= MOST_NAMES:
        raise NoRow(row)
    name = words[1]
    kind = read_row_kind(row, words[2])
    check_basics(row, basics_in_kind(kind), basics)
    if name in [own for own, told in names]:
        raise Twice(row)
    return (name, kind)


def read_row_kind(row, text):
    """The kind in a row."""
    try:
        return read_kind(text)
    except NoKind:
        raise NoRow(row) from None


def read_triples(row, words, book):
    """The triples that a row `word` tells, behind the basics, names and triples of the book so far."""
    basics, names, ahead = book
    word, form, term = read_word_row(row, words)
    used = basics_in_form(form) + basics_in_term(term)
    triples = [(word, form, term)]
    if ANY in used:
        triples = [(word, form_with(form, basic), term_with(term, basic)) for basic in basics]
    forms = [own for told, own, meant in ahead + triples if told == word]
    if len(ahead) + len(triples) > MOST_TRIPLES or len(forms) > MOST_OF_A_WORD:
        raise NoRow(row)
    check_basics(row, used, basics + [ANY])
    if len(set([show_form(own) for own in forms])) < len(forms):
        raise Twice(row)
    for told, own, meant in triples:
        if not is_fit(names, own, meant):
            raise Misfit(row)
    return triples


def read_word_row(row, words):
    """The word, the form and the term of a row `word`, as they are written there."""
    if len(words) != 4 or not is_name(words[1]):
        raise NoRow(row)
    try:
        form = read_form(words[2])
        term = read_term(words[3])
    except (NoForm, NoTerm):
        raise NoRow(row) from None
    if len(basics_in_form(form)) > MOST_IN_A_FORM:
        raise NoRow(row)
    return (words[1], form, term)


def is_fit(names, form, term):
    """Whether a term is sparing and has the form's kind by the names."""
    if not is_sparing(term):
        return False
    try:
        return kind_of(names, term) == kind_of_form(form)
    except NoKind:
        return False


def check_basics(row, used, basics):
    """Refuse with NoBasic a row that uses another basic than these."""
    for basic in used:
        if basic not in basics:
            raise NoBasic(row)


def basics_in_kind(kind):
    """The basics of a kind, each as often as it stands there."""
    if isinstance(kind, str):
        return [kind]
    return basics_in_kind(kind[0]) + basics_in_kind(kind[1])


def basics_in_form(form):
    """The basics of a form, each as often as it stands there."""
    return basics_in_kind(kind_of_form(form))


def basics_in_term(term):
    """The basics of the kinds within a term, each as often as it stands there."""
    used = []
    for part, fns in parts_and_fns(term):
        if part[0] == "fn":
            used.extend(basics_in_kind(part[1]))
    return used


def kind_with(kind, basic):
    """A kind with a basic in the place of `any`."""
    if isinstance(kind, str):
        return basic if kind == ANY else kind
    return (kind_with(kind[0], basic), kind_with(kind[1], basic))


def form_with(form, basic):
    """A form with a basic in the place of `any`."""
    if form[0] == "basic":
        return ("basic", kind_with(form[1], basic))
    return (form[0], form_with(form[1], basic), form_with(form[2], basic))


def term_with(term, basic):
    """A term with a basic in the place of `any` in its kinds; its names stay."""
    if term[0] == "fn":
        return ("fn", kind_with(term[1], basic), term_with(term[2], basic))
    if term[0] == "of":
        return ("of", term_with(term[1], basic), term_with(term[2], basic))
    return term


def show_book(book):
    """The text of a book, a row for each triple."""
    basics, names, triples = book
    rows = ["basics " + " ".join(basics)]
    rows.extend([f"name {name} {show_kind(kind)}" for name, kind in names])
    rows.extend([f"word {word} {show_form(form)} {show_term(term)}" for word, form, term in triples])
    return "\n".join(rows)
