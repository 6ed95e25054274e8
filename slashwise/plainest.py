"""The plain readings of a whole sentence to a form, and all readings put together by them."""

from slashwise.chart import chart
from slashwise.tally import Tally
from slashwise.telling import listed, numbered, tally_of
from slashwise.turning import turns


def plain_tally_of(book, words):
    """The plain readings of a sentence, counted, or NoWord."""
    return Tally(chart(book, words), len(words), True)


def plain_count(book, words, form):
    """How many plain readings a sentence has to a form, or NoWord."""
    return plain_tally_of(book, words).many_of_whole(form)


def plain_at(book, words, form, number):
    """The plain reading to a form at a number, or NoWord, NoNumber."""
    return plain_tally_of(book, words).reading_of_whole(form, number)


def put_together(book, words, form, most=200):
    """Each plain reading to a form, with the numbers of all that turn to it, or NoWord, TooMany."""
    tally = tally_of(book, words)
    readings = listed(tally, form, most)
    groups = {}
    for number, reading in enumerate(readings):
        # The plain one's number stands for it: it is a key, and the plain ones are in its order.
        plain = numbered(tally, turns(reading)[-1])[3]
        groups.setdefault(plain, []).append(number)
    return [(readings[plain], groups[plain]) for plain in sorted(groups)]
