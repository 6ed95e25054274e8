"""What readings mean, put together by their rules and not brought to plain form."""

from slashwise.books import term_of
from slashwise.rules import made, meant


def meaning(book, words, reading):
    """What a reading means by the book's terms."""
    terms = {place: term_of(book, words[place], form) for place, form in words_of(reading)}
    return meaning_with(reading, terms)


def unknown(reading):
    """What a reading means where its words are unknown."""
    return meaning_with(reading, {place: ("leaf", place, form) for place, form in words_of(reading)})


def words_of(reading):
    """The words of a reading in order, each as its place and its form."""
    if reading[0] == "word":
        return [(reading[1], reading[2])]
    return words_of(reading[1]) + words_of(reading[2])


def meaning_with(reading, terms):
    """What a reading means, with these terms at the places of its words."""
    return form_and_term(reading, terms)[1]


def form_and_term(reading, terms):
    """The form of a reading, and what it means, with these terms at the places of its words."""
    if reading[0] == "word":
        return (reading[2], terms[reading[1]])
    left, first = form_and_term(reading[1], terms)
    right, second = form_and_term(reading[2], terms)
    sign, form = made(left, right)
    return (form, meant(sign, left, right, first, second))
