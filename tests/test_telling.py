import copy
import unittest

from slashwise.booktexts import read_book
from slashwise.chart import chart, counts
from slashwise.errors import NoNumber, NoReading, NoWord, TooMany
from slashwise.forms import read_form, show_form
from slashwise.readings import formed
from slashwise.telling import all_readings, how_many, number_of, reading_at
from tests.sowing import CHAIN, MANY, N, SIXTY, TWO_HUNDRED, Sower, f, g, grouped, m, readings_by_words
from tests.things import nested, no_texts, refusal

BOTH = read_book("basics n\nname f (n>n)\nname m n\nword w n/n f\nword w n\\n f\nword w n m")


class HowManyTest(unittest.TestCase):
    def test_ordinary(self):
        self.assertEqual(how_many(CHAIN, ("f", "m"), N), 1)
        self.assertEqual(how_many(CHAIN, ("f", "f", "m"), N), 2)
        self.assertEqual(how_many(CHAIN, ("f", "m", "g"), N), 2)
        self.assertEqual(how_many(CHAIN, ("f",) * 9 + ("m",), N), 4862)
        self.assertEqual(how_many(BOTH, ("w",) * 3, N), 6)
        self.assertIs(type(how_many(CHAIN, ("f", "m"), N)), int)

    def test_of_one_word_and_none(self):
        self.assertEqual(how_many(CHAIN, ("m",), N), 1)
        self.assertEqual(how_many(CHAIN, ("m",), read_form("n/n")), 0)
        self.assertEqual(how_many(CHAIN, (), N), 0)

    def test_a_form_that_the_sentence_has_not(self):
        for form in ["s", "n/n", "n\\n", "x", "any", "/".join(["n"] * 12), "n/(" * 10 + "n/n" + ")" * 10]:
            self.assertEqual(how_many(CHAIN, ("f", "m"), read_form(form)), 0)
        self.assertEqual(how_many(CHAIN, ("m", "m"), N), 0)
        self.assertEqual(how_many(CHAIN, ("m", "f"), N), 0)

    def test_the_whole_sentence_alone_counts(self):
        self.assertEqual(how_many(CHAIN, ("m", "f", "m"), N), 0)
        self.assertEqual(how_many(CHAIN, ("m", "f", "m"), read_form("n/n")), 0)


class ReadingAtTest(unittest.TestCase):
    def test_way_by_way_in_the_table_s_order(self):
        words = ("f", "f", "m", "g")
        expected = [
            (">", f(0), (">", f(1), ("<", m(2), g(3)))),
            (">", f(0), ("<", (">", f(1), m(2)), g(3))),
            (">", (">>", f(0), f(1)), ("<", m(2), g(3))),
            ("<", (">", f(0), (">", f(1), m(2))), g(3)),
            ("<", (">", (">>", f(0), f(1)), m(2)), g(3)),
        ]
        self.assertEqual([reading_at(CHAIN, words, N, number) for number in range(5)], expected)

    def test_of_one_way_by_the_left_one_s_number_then_by_the_right_one_s(self):
        words = ("f", "f", "f", "m", "g", "g")
        count = how_many(CHAIN, words, N)
        table = chart(CHAIN, words)
        way = table[-1][3].index((">", 3, read_form("n/n"), N))
        many = {row[:3]: number for row, number in zip(table, counts(CHAIN, words))}
        ahead = sum(many[(0, k, left)] * many[(k, 6, right)] for sign, k, left, right in table[-1][3][:way])
        lefts = [(">>", f(0), (">>", f(1), f(2))), (">>", (">>", f(0), f(1)), f(2))]
        rights = [("<", m(3), ("<<", g(4), g(5))), ("<", ("<", m(3), g(4)), g(5))]
        told = [reading_at(CHAIN, words, N, ahead + k) for k in range(4)]
        self.assertEqual(told, [(">", left, right) for left in lefts for right in rights])
        self.assertEqual(count, 42)

    def test_one_word(self):
        self.assertEqual(reading_at(CHAIN, ("m",), N, 0), m(0))
        self.assertEqual(reading_at(BOTH, ("w",), read_form("n\\n"), 0), g(0))

    def test_numbers_that_there_are_not(self):
        for words, form, count in [(("f", "f", "m"), N, 2), (("m",), N, 1), (("f",) * 9 + ("m",), N, 4862),
                                   ((), N, 0), (("m", "m"), N, 0), (("f", "m"), read_form("s"), 0)]:
            for number in [-1, -SIXTY, count, count + 1, SIXTY, -count - 1]:
                self.assertEqual(refusal(reading_at, CHAIN, words, form, number),
                                 (NoNumber, {"number": number, "count": count}))
            if count:
                self.assertIsNone(refusal(reading_at, CHAIN, words, form, count - 1))
                self.assertIsNone(refusal(reading_at, CHAIN, words, form, 0))

    def test_ten_words_with_thousands_of_readings(self):
        words = ("f",) * 9 + ("m",)
        told = [reading_at(CHAIN, words, N, number) for number in range(0, 4862, 61)]
        self.assertEqual(len(set(told)), len(told))
        for reading, number in zip(told, range(0, 4862, 61)):
            self.assertEqual(formed(CHAIN, words, reading), (0, 10, N))
            self.assertEqual(number_of(CHAIN, words, reading), (N, number))


class NumberOfTest(unittest.TestCase):
    words = ("f", "f", "m")

    def no(self, reading, words=None):
        given = self.words if words is None else words
        self.assertEqual(refusal(number_of, CHAIN, given, reading), (NoReading, {}))

    def test_ordinary(self):
        self.assertEqual(number_of(CHAIN, self.words, (">", f(0), (">", f(1), m(2)))), (N, 0))
        self.assertEqual(number_of(CHAIN, self.words, (">", (">>", f(0), f(1)), m(2))), (N, 1))
        self.assertEqual(number_of(CHAIN, ("f",), f(0)), (read_form("n/n"), 0))
        self.assertEqual(number_of(BOTH, ("w", "w"), (">>", f(0), f(1))), (read_form("n/n"), 0))
        self.assertEqual(number_of(BOTH, ("w", "w"), ("<", m(0), g(1))), (N, 1))
        self.assertIsInstance(number_of(CHAIN, self.words, (">", f(0), (">", f(1), m(2)))), tuple)

    def test_a_reading_of_a_part_of_the_sentence_only(self):
        for reading in [f(0), f(1), m(2), (">>", f(0), f(1)), (">", f(1), m(2))]:
            self.assertIsNone(refusal(formed, CHAIN, self.words, reading))
            self.no(reading)

    def test_what_is_no_reading(self):
        for thing in no_texts() + ["", "word", [">", f(0), (">", f(1), m(2))], (">", [f(0)], (">", f(1), m(2))),
                                   (">", f(False), (">", f(1), m(2))), (">", f(0), (">", f(True), m(2))),
                                   (">", f("0"), (">", f(1), m(2))), (">", f(0), (">", f(1), m(3))),
                                   (">", f(0), (">", f(1), m(-1))), (">", f(0), (">", f(1), g(2))),
                                   (">>", f(0), (">", f(1), m(2))), (">", f(0), m(2)), (">", f(0), f(1), m(2)),
                                   (">", f(0), (">", f(0), m(2))), ("word", 0), (">",), m(3), m(SIXTY), m(-SIXTY)]:
            self.no(thing)
        self.no(nested(40, f(0), lambda inner: (">>", inner, inner)))

    def test_no_words(self):
        for thing in [m(0), None, (), ""]:
            self.no(thing, ())


class AllReadingsTest(unittest.TestCase):
    def test_by_their_numbers(self):
        words = ("f", "f", "m", "g")
        self.assertEqual(all_readings(CHAIN, words, N), [reading_at(CHAIN, words, N, number) for number in range(5)])

    def test_more_than_a_told_most(self):
        words = ("f", "f", "f", "m")
        self.assertEqual(len(all_readings(CHAIN, words, N, 5)), 5)
        self.assertEqual(len(all_readings(CHAIN, words, N, 6)), 5)
        self.assertEqual(len(all_readings(CHAIN, words, N, 1000)), 5)
        for most in [0, 1, 4]:
            self.assertEqual(refusal(all_readings, CHAIN, words, N, most), (TooMany, {"count": 5, "most": most}))

    def test_a_most_that_is_left_out(self):
        self.assertEqual(len(all_readings(CHAIN, ("f",) * 6 + ("m",), N)), 132)
        self.assertEqual(refusal(all_readings, CHAIN, ("f",) * 7 + ("m",), N),
                         (TooMany, {"count": 429, "most": 200}))
        self.assertEqual(len(all_readings(CHAIN, ("f",) * 7 + ("m",), N, 429)), 429)

    def test_just_as_many_as_the_most_that_is_left_out(self):
        self.assertEqual(how_many(MANY, TWO_HUNDRED, N), 200)
        self.assertEqual(len(set(all_readings(MANY, TWO_HUNDRED, N))), 200)
        self.assertEqual(refusal(all_readings, MANY, TWO_HUNDRED, N, 199), (TooMany, {"count": 200, "most": 199}))

    def test_none(self):
        for words, form in [((), "n"), (("m", "m"), "n"), (("f", "m"), "s")]:
            for most in [0, 1, 1000]:
                self.assertEqual(all_readings(CHAIN, words, read_form(form), most), [])
            self.assertEqual(all_readings(CHAIN, words, read_form(form)), [])

    def test_the_list_is_the_asker_s_own(self):
        words = ("f", "f", "m")
        before = copy.deepcopy((CHAIN, words))
        first = all_readings(CHAIN, words, N)
        self.assertIsInstance(first, list)
        kept = list(first)
        all_readings(CHAIN, words, N).clear()
        self.assertEqual(first, kept)
        first.append(None)
        self.assertEqual(all_readings(CHAIN, words, N), kept)
        self.assertEqual((CHAIN, words), before)


class NoWordTest(unittest.TestCase):
    def test_ahead_of_all_else(self):
        for words, place in [(("x", "f", "m"), 0), (("f", "x", "m"), 1), (("f", "m", "x"), 2), (("f", "x", "y"), 1),
                             (("",), 0), (("m", ""), 1), (("f",) * 9 + ("x",), 9)]:
            expected = (NoWord, {"word": words[place], "place": place})
            for form in [N, read_form("s")]:
                self.assertEqual(refusal(how_many, CHAIN, words, form), expected)
                self.assertEqual(refusal(all_readings, CHAIN, words, form), expected)
                self.assertEqual(refusal(all_readings, CHAIN, words, form, 0), expected)
                for number in [-1, 0, SIXTY]:
                    self.assertEqual(refusal(reading_at, CHAIN, words, form, number), expected)
            for reading in [None, (), f(0), m(0), m(1), (">", f(0), m(1)), [], "", m(SIXTY)]:
                self.assertEqual(refusal(number_of, CHAIN, words, reading), expected)


class ByChanceTest(unittest.TestCase):
    """What holds of each book and each sentence (3)."""

    def test_against_all_readings(self):
        many = 0
        for seed in range(200):
            sower = Sower(seed)
            book = sower.book()
            words = sower.sentence(book, 1 + seed % 7)
            for text, readings in grouped(readings_by_words(book, words, 0, len(words))).items():
                form = read_form(text)
                self.assertEqual(how_many(book, words, form), len(readings))
                self.assertEqual(all_readings(book, words, form, 1000), readings)
                for number in range(0, len(readings), 7):
                    self.assertEqual(reading_at(book, words, form, number), readings[number])
                    self.assertEqual(number_of(book, words, readings[number]), (form, number))
                many += len(readings)
        self.assertGreater(many, 2000)

    def test_there_and_back_in_ten_words(self):
        most = 0
        for seed in range(60):
            sower = Sower(seed)
            book = sower.book(most_forms=5)
            words = sower.sentence(book, 10)
            table = chart(book, words)
            forms = [form for i, j, form, ways in table if j - i == 10]
            for form in forms[:3]:
                count = how_many(book, words, form)
                most = max(most, count)
                for number in sorted({0, count // 3, count // 2, count - 1}):
                    reading = reading_at(book, words, form, number)
                    self.assertEqual(formed(book, words, reading), (0, 10, form), show_form(form))
                    self.assertEqual(number_of(book, words, reading), (form, number))
                self.assertEqual(refusal(reading_at, book, words, form, count),
                                 (NoNumber, {"number": count, "count": count}))
        self.assertGreater(most, 100000)


if __name__ == "__main__":
    unittest.main()
