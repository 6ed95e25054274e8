"""The table of a sentence: the forms that the rules make of each stretch, each with its ways."""

from slashwise.books import forms_of
from slashwise.errors import NoWord
from slashwise.forms import show_form
from slashwise.rules import SIGNS, made
from slashwise.tally import Tally


def chart(book, words):
    """The table as a list of tuples (i, j, form, ways), or NoWord."""
    forms = forms_of_words(book, words)
    cells = {}
    table = []
    for i, j in stretches(len(words)):
        if j == i + 1:
            rows = [(form, []) for form in forms[i]]
        else:
            rows = rows_of_stretch(cells, i, j)
        cells[(i, j)] = [form for form, ways in rows]
        table.extend([(i, j, form, ways) for form, ways in rows])
    return table


def forms_of_words(book, words):
    """The forms of each word of a sentence, or NoWord with the place of the first one that the book has not."""
    told = []
    for place, word in enumerate(words):
        try:
            told.append(forms_of(book, word))
        except NoWord:
            raise NoWord(word, place) from None
    return told


def stretches(size):
    """The stretches (i, j) of so many words, shorter ones first, then by i."""
    return [(i, i + long) for long in range(1, size + 1) for i in range(size + 1 - long)]


def rows_of_stretch(cells, i, j):
    """The forms of a stretch of several words in order, each with its ways, by the forms of shorter stretches."""
    found = {}
    for k in range(i + 1, j):
        for left in cells[(i, k)]:
            for right in cells[(k, j)]:
                told = made(left, right)
                if told is not None:
                    sign, form = told
                    row = found.setdefault(show_form(form), (form, []))
                    row[1].append((sign, k, left, right))
    return [(found[text][0], sorted(found[text][1], key=rank_of_way)) for text in sorted(found)]


def rank_of_way(way):
    """What the ways of a form go by; left and right forms are left out, as ways are found in their order."""
    return (way[1], SIGNS.index(way[0]))


def counts(book, words):
    """How many readings each tuple of the table has, in the table's order, or NoWord."""
    table = chart(book, words)
    tally = Tally(table, len(words), False)
    return [tally.many(i, j, form) for i, j, form, ways in table]
