"""Readings: what is one, and the stretch and form that it comes to."""

from slashwise.books import forms_of
from slashwise.errors import NoReading, NoWord
from slashwise.forms import is_form, is_headed
from slashwise.rules import SIGNS, made


def formed(book, words, reading):
    """What a reading of a sentence's words comes to, (i, j, form); whatever else is refused with NoReading."""
    # Walked from its end, the list tells what the left one comes to last ahead of a node, the right one's just below.
    told = []
    for node in reversed(nodes_of(reading, len(words))):
        if node[0] == "word":
            told.append(formed_of_word(book, words, node[1], node[2]))
        else:
            left = told.pop()
            told.append(formed_of_two(node[0], left, told.pop()))
    return told[0]


def nodes_of(reading, most):
    """The nodes of what is built like a reading of at most so many words, or NoReading.

    A node stands ahead of what is in it, what is in its left one ahead of what is in its right one.
    """
    nodes = []
    todo = [reading]
    words = 0
    while todo:
        # Each thing still to do would bear a word of its own, so what is nested too deep is left early.
        if words + len(todo) > most:
            raise NoReading("a reading has each word of the sentence once at most")
        node = todo.pop()
        if is_headed(node, ("word",), 3):
            words += 1
        elif is_headed(node, SIGNS, 3):
            todo.extend([node[2], node[1]])
        else:
            raise NoReading("a reading is a word by a form, or a rule's sign and two readings")
        nodes.append(node)
    return nodes


def formed_of_word(book, words, place, form):
    """What word and form at a place come to, or NoReading."""
    if not isinstance(place, int) or isinstance(place, bool) or place < 0 or place >= len(words):
        raise NoReading("the sentence has no such place")
    try:
        forms = forms_of(book, words[place])
    except NoWord:
        raise NoReading("the book has not the word") from None
    if not is_form(form) or form not in forms:
        raise NoReading("the word has not this form")
    return (place, place + 1, form)


def formed_of_two(sign, left, right):
    """What a rule makes of what two readings come to, or NoReading."""
    if left[1] != right[0]:
        raise NoReading("the left one does not end where the right one begins")
    told = made(left[2], right[2])
    if told is None or told[0] != sign:
        raise NoReading("the rule does not put these two forms together")
    return (left[0], right[1], told[1])
