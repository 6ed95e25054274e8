"""The whole promise (3) on ordinary books: table, readings, meanings and plain readings hang together."""

import unittest

from slashwise.booktexts import read_book
from slashwise.chart import chart, counts
from slashwise.forms import kind_of_form, read_form
from slashwise.meanings import meaning, unknown
from slashwise.plainest import plain_at, plain_count, put_together
from slashwise.readings import formed
from slashwise.report import report, words_in
from slashwise.rules import made
from slashwise.steps import plain_of, steps_of
from slashwise.telling import all_readings, how_many, number_of
from slashwise.terms import kind_of, size_of
from slashwise.termtexts import show_term
from slashwise.turning import is_plain, turns
from tests.sowing import Sower

TEXT = "\n".join([
    "basics s n np pp",
    "name mary np",
    "name john np",
    "name dog n",
    "name the (n>np)",
    "name big (n>n)",
    "name see (np>(np>s))",
    "name with (np>(n>n))",
    "name using (np>((np>s)>(np>s)))",
    "name and (s>(s>s))",
    "word mary np mary",
    "word john np john",
    "word john s/(s\\np) [(np>s)]#0(john)",
    "word the np/n the",
    "word big n/n big",
    "word dog n dog",
    "word saw s\\np/np see",
    "word with n\\n/np with",
    "word with s\\np\\(s\\np)/np using",
    "word and any\\any/any [any][any]([any]#0)(#0)",
])
SENTENCES = [
    "mary saw john", "john saw mary", "mary saw the dog", "the dog saw the big dog", "john saw the dog with mary",
    "mary saw the big dog with the dog", "mary and john", "the big dog and dog saw john with the dog",
    "mary saw john with the big big big dog", "john", "mary mary", "the", "",
]


class WholeTest(unittest.TestCase):
    def check_form(self, book, words, form):
        """What is promised of the readings of a whole sentence to a form."""
        readings = all_readings(book, words, form, 1000)
        self.assertEqual(len(readings), how_many(book, words, form))
        self.assertEqual(len(set(readings)), len(readings))
        for number, reading in enumerate(readings):
            self.assertEqual(formed(book, words, reading), (0, len(words), form))
            self.assertEqual(number_of(book, words, reading), (form, number))
        meanings = {}
        for number, reading in enumerate(readings):
            meanings.setdefault(plain_of(unknown(reading)), []).append(number)
            self.assertEqual(plain_of(unknown(turns(reading)[-1])), plain_of(unknown(reading)))
            self.check_steps(book[1], form, meaning(book, words, reading))
        together = put_together(book, words, form, 1000)
        self.assertEqual([numbers for plain, numbers in together], sorted(
            meanings.values(), key=lambda numbers: [n for n in numbers if is_plain(readings[n])]))
        self.assertEqual(len(together), plain_count(book, words, form))
        for at, (plain, numbers) in enumerate(together):
            self.assertEqual(plain_at(book, words, form, at), plain)
            self.assertEqual([readings[n] for n in numbers if is_plain(readings[n])], [plain])
        return len(readings)

    def check_steps(self, names, form, term):
        steps = steps_of(term)
        sizes = [size_of(step) for step in steps]
        self.assertEqual(sizes, sorted(set(sizes), reverse=True))
        for step in steps:
            self.assertEqual(kind_of(names, step), kind_of_form(form))

    def check_sentence(self, book, words):
        table = chart(book, words)
        places = {(i, j, form) for i, j, form, ways in table}
        for i, j, form in places:
            for k, l, other in places:
                told = made(form, other) if j == k else None
                if told is not None:
                    self.assertIn((i, l, told[1]), places)
        found = 0
        whole = [(row[2], many) for row, many in zip(table, counts(book, words)) if row[:2] == (0, len(words))]
        for form, many in whole:
            self.assertEqual(how_many(book, words, form), many)
            if many <= 150:
                found += self.check_form(book, words, form)
        # What isn't read has no place for its form in the table.
        for form in [read_form("zz"), read_form("s/(s/(s/s))")]:
            if (0, len(words), form) not in places:
                self.assertEqual(self.check_form(book, words, form), 0)
        return found

    def test_ordinary_sentences(self):
        book = read_book(TEXT)
        found = [self.check_sentence(book, words_in(text)) for text in SENTENCES]
        self.assertEqual(found[0], 1)
        self.assertEqual(found[-4:], [2, 0, 1, 0])
        self.assertGreater(sum(found), 40)

    def test_by_chance(self):
        found = 0
        for seed in range(500, 600):
            sower = Sower(seed)
            book = sower.book()
            found += self.check_sentence(book, sower.sentence(book, seed % 8))
        self.assertGreater(found, 500)

    def test_two_meanings_of_one_sentence(self):
        self.assertEqual(report(TEXT, "mary saw the dog with john", "s").split("\n")[1:], [
            "0: see(the(with(john)(dog)))(mary)", "1: using(john)(see(the(dog)))(mary)"])

    def test_what_a_report_tells_is_what_the_others_tell(self):
        book = read_book(TEXT)
        for text in SENTENCES:
            words = words_in(text)
            form = read_form("s")
            told = report(TEXT, text, "s", 1000).split("\n")
            self.assertEqual(told[0], f"readings {how_many(book, words, form)} plain {plain_count(book, words, form)}")
            for row in told[1:] if how_many(book, words, form) else []:
                numbers, shown = row.split(": ")
                for number in numbers.split(" "):
                    reading = plain_at(book, words, form, int(number))
                    self.assertEqual(show_term(plain_of(meaning(book, words, reading))), shown)


if __name__ == "__main__":
    unittest.main()
