"""Books and sentences for the tests of readings: a chain, and others by chance, always the same ones.

And readings and their turns, told once more in the document's own words.
"""

import random

from slashwise.booktexts import read_book, show_book
from slashwise.forms import kind_of_form, read_form, show_form

SIGNS = [">", "<", ">>", "<<"]
LETTERS = "abcdefghijklmnopqrst"

N = read_form("n")
CHAIN = read_book("basics n s\nname f (n>n)\nname m n\nword f n/n f\nword g n\\n f\nword m n m")
# Eight words of this book have just two hundred readings to n: so as many as where a most is left out.
MANY = read_book("\n".join([
    "basics n", "name a (n>(n>n))", "name b n", "name c (n>n)", "word a n/n/n a", "word b n b", "word b n/n/n a",
    "word b n\\n c",
]))
TWO_HUNDRED = ("b", "a", "b", "b", "b", "b", "b", "b")
SIXTY = 10 ** 60 - 1


def word(place, form):
    return ("word", place, read_form(form))


def f(place):
    return word(place, "n/n")


def g(place):
    return word(place, "n\\n")


def m(place):
    return word(place, "n")


class Sower:
    """Books with forms that often go together, and sentences of their words."""

    def __init__(self, seed):
        self.chance = random.Random(seed)

    def form(self, basics, most):
        size = self.chance.randint(1, most)
        slashes = self.chance.choice(["/", "\\", "/\\"])
        if size % 2 == 0 and self.chance.random() < 0.5:
            same = self.form_of(basics, slashes, size // 2)
            return (self.chance.choice(slashes), same, same)
        return self.form_of(basics, slashes, size)

    def form_of(self, basics, slashes, size):
        if size == 1:
            return ("basic", self.chance.choice(basics))
        left = self.chance.choice([size - 1, self.chance.randint(1, size - 1)])
        return (self.chance.choice(slashes), self.form_of(basics, slashes, left),
                self.form_of(basics, slashes, size - left))

    def term(self, name, kind):
        """A term of this kind with a name of this kind in it, perhaps with steps to be done."""
        term = ("name", name)
        for k in range(self.chance.randint(0, 2)):
            deed = self.chance.choice(["same", "fn", "plain"])
            if deed == "same":
                term = ("of", ("fn", kind, ("bound", 0)), term)
            if deed == "fn" and isinstance(kind, tuple):
                term = ("fn", kind[0], ("of", term, ("bound", 0)))
        return term

    def book(self, most_words=4, most_forms=3, most_basics=4):
        """A book of one to so many words, each of at most so many forms."""
        basics = self.chance.choice([["n"], ["n"], ["s", "n"], ["s", "n", "pp"]])
        names = {}
        triples = []
        for word in LETTERS[:self.chance.randint(1, most_words)]:
            forms = [self.form(basics, most_basics) for k in range(self.chance.randint(1, most_forms))]
            for form in dict.fromkeys(forms):
                kind = kind_of_form(form)
                name = names.setdefault(kind, LETTERS[len(names)])
                triples.append((word, form, self.term(name, kind)))
        book = (tuple(basics), tuple((name, kind) for kind, name in names.items()), tuple(triples))
        assert read_book(show_book(book)) == book
        return book

    def sentence(self, book, size):
        return tuple(self.chance.choice(book[2])[0] for k in range(size))


def made_by_words(left, right):
    """All that the rules make of two forms, each rule by itself."""
    found = []
    if left[0] == "/" and right == left[2]:
        found.append((">", left[1]))
    if right[0] == "\\" and left == right[2]:
        found.append(("<", right[1]))
    if left[0] == "/" and right[0] == "/" and right[1] == left[2]:
        found.append((">>", ("/", left[1], right[2])))
    if left[0] == "\\" and right[0] == "\\" and right[2] == left[1]:
        found.append(("<<", ("\\", right[1], left[2])))
    return found


def readings_by_words(book, words, i, j):
    """All readings of a stretch, each with its form, in the order of their forms and numbers."""
    if j == i + 1:
        return sorted([(form, ("word", i, form)) for word, form, term in book[2] if word == words[i]],
                      key=lambda pair: show_form(pair[0]))
    found = []
    for k in range(i + 1, j):
        for left, first in readings_by_words(book, words, i, k):
            for right, second in readings_by_words(book, words, k, j):
                for sign, form in made_by_words(left, right):
                    rank = (show_form(form), k, SIGNS.index(sign), show_form(left), show_form(right))
                    found.append((rank, form, (sign, first, second)))
    # Of one way the left one's number goes first, then the right one's: so they were found, and so they stay.
    return [(form, reading) for rank, form, reading in sorted(found, key=lambda row: row[0])]


def grouped(pairs):
    """The readings of each form, by the form's text."""
    groups = {}
    for form, reading in pairs:
        groups.setdefault(show_form(form), []).append(reading)
    return groups


def one_turns(reading):
    """All that comes of a reading by one turn, at whichever node."""
    if reading[0] == "word":
        return []
    sign, left, right = reading
    found = []
    if sign == ">" and left[0] == ">>":
        found.append((">", left[1], (">", left[2], right)))
    if sign == ">>" and left[0] == ">>":
        found.append((">>", left[1], (">>", left[2], right)))
    if sign == "<" and right[0] == "<<":
        found.append(("<", ("<", left, right[1]), right[2]))
    if sign == "<<" and right[0] == "<<":
        found.append(("<<", ("<<", left, right[1]), right[2]))
    found += [(sign, other, right) for other in one_turns(left)]
    return found + [(sign, left, other) for other in one_turns(right)]


def many_words(reading):
    return 1 if reading[0] == "word" else many_words(reading[1]) + many_words(reading[2])


def turning_sum(reading):
    """The sum that each turn lessens (25)."""
    if reading[0] == "word":
        return 0
    sign, left, right = reading
    return many_words(left if sign in [">", ">>"] else right) + turning_sum(left) + turning_sum(right)
