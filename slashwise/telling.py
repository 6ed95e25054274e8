"""The readings of a whole sentence to a form: how many, by number there and back, and all."""

from slashwise.chart import chart
from slashwise.errors import NoReading, TooMany
from slashwise.readings import formed
from slashwise.rules import made
from slashwise.tally import Tally


def tally_of(book, words):
    """All readings of a sentence, counted, or NoWord."""
    return Tally(chart(book, words), len(words), False)


def how_many(book, words, form):
    """How many readings a sentence has to a form, or NoWord."""
    return tally_of(book, words).many_of_whole(form)


def reading_at(book, words, form, number):
    """The reading to a form at a number, or NoWord, NoNumber."""
    return tally_of(book, words).reading_of_whole(form, number)


def number_of(book, words, reading):
    """The form and the number of a reading of the whole sentence, or NoWord, NoReading."""
    tally = tally_of(book, words)
    i, j, form = formed(book, words, reading)
    if i != 0 or j != len(words):
        raise NoReading("the reading is not of the whole sentence")
    return (form, numbered(tally, reading)[3])


def numbered(tally, reading):
    """The stretch (i, j), the form and the number among all readings of a reading."""
    if reading[0] == "word":
        return (reading[1], reading[1] + 1, reading[2], 0)
    i, k, left, first = numbered(tally, reading[1])
    middle, j, right, second = numbered(tally, reading[2])
    sign, form = made(left, right)
    number = first * tally.many(k, j, right) + second
    return (i, j, form, tally.many_ahead(i, j, form, (sign, k, left, right)) + number)


def all_readings(book, words, form, most=200):
    """All readings to a form by their numbers, or NoWord, TooMany."""
    return listed(tally_of(book, words), form, most)


def listed(tally, form, most):
    """All readings of a tally to a form by their numbers, or TooMany."""
    count = tally.many_of_whole(form)
    if count > most:
        raise TooMany(count, most)
    return [tally.reading_of_whole(form, number) for number in range(count)]
