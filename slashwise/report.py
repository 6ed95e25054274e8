"""The report on a book, a sentence and a form, all three as texts."""

from slashwise.booktexts import read_book
from slashwise.chart import chart, stretches
from slashwise.errors import TooMany
from slashwise.forms import read_form, show_form
from slashwise.meanings import meaning
from slashwise.steps import plain_of
from slashwise.tally import Tally
from slashwise.telling import listed
from slashwise.termtexts import show_term

MOST_WORDS = 10


def words_in(text):
    """The words of a sentence's text, or TooMany."""
    words = text.split(" ") if text != "" else []
    if len(words) > MOST_WORDS:
        raise TooMany(len(words), MOST_WORDS)
    return tuple(words)


def report(book_text, text, form_text, most=40):
    """The report as a text of rows; what is refused is refused by the book, the form, the sentence, the most."""
    book = read_book(book_text)
    form = read_form(form_text)
    words = words_in(text)
    table = chart(book, words)
    count = Tally(table, len(words), False).many_of_whole(form)
    plain_ones = listed(Tally(table, len(words), True), form, most)
    rows = [f"readings {count} plain {len(plain_ones)}"]
    if count == 0:
        rows.extend(rows_of_stretches(table, len(words)))
    else:
        brief = with_plain_terms(book)
        rows.extend(rows_of_meanings([meaning(brief, words, reading) for reading in plain_ones]))
    return "\n".join(rows)


def with_plain_terms(book):
    """The book with each term in its plain form: what readings mean has the same plain form by it, in fewer steps."""
    basics, names, triples = book
    return (basics, names, tuple([(word, form, plain_of(term)) for word, form, term in triples]))


def rows_of_stretches(table, size):
    """A row for each stretch of so many words, with its forms."""
    forms = {stretch: [] for stretch in stretches(size)}
    for i, j, form, ways in table:
        forms[(i, j)].append(show_form(form))
    return [f"{i} {j} " + (" ".join(forms[(i, j)]) or "-") for i, j in forms]


def rows_of_meanings(terms):
    """A row for each unlike plain form of these terms, with the numbers of those that have it."""
    numbers = {}
    for number, term in enumerate(terms):
        numbers.setdefault(show_term(plain_of(term)), []).append(str(number))
    return [" ".join(numbers[shown]) + ": " + shown for shown in numbers]
