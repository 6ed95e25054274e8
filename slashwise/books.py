"""Books: the forms of a word, and its terms."""

from slashwise.errors import NoForm, NoWord
from slashwise.forms import show_form


def rows_of(book, word):
    """The pairs (form, term) of a word in the book's order, or NoWord."""
    rows = [(form, term) for own, form, term in book[2] if own == word]
    if not rows:
        raise NoWord(word, 0)
    return rows


def forms_of(book, word):
    """The forms of a word in order, or NoWord."""
    return sorted([form for form, term in rows_of(book, word)], key=show_form)


def term_of(book, word, form):
    """The term of a word by a form, or NoWord, NoForm."""
    for own, term in rows_of(book, word):
        if own == form:
            return term
    raise NoForm("the word has not this form")
