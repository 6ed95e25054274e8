import copy
import unittest

from slashwise.chart import chart
from slashwise.errors import NoNumber, NoWord, TooMany
from slashwise.forms import read_form
from slashwise.meanings import unknown
from slashwise.plainest import plain_at, plain_count, put_together
from slashwise.readings import formed
from slashwise.steps import plain_of
from slashwise.telling import all_readings, how_many, number_of, reading_at
from slashwise.turning import is_plain, turns
from tests.sowing import (
    CHAIN, MANY, N, SIXTY, TWO_HUNDRED, Sower, f, g, grouped, m, one_turns, readings_by_words,
)
from tests.things import refusal

FFMG = ("f", "f", "m", "g")
# The plain ones of this sentence, each with the numbers of all that turn to it.
TOGETHER = [
    ((">", f(0), (">", f(1), ("<", m(2), g(3)))), [0, 2]),
    ((">", f(0), ("<", (">", f(1), m(2)), g(3))), [1]),
    (("<", (">", f(0), (">", f(1), m(2))), g(3)), [3, 4]),
]


class PlainCountTest(unittest.TestCase):
    def test_ordinary(self):
        self.assertEqual(plain_count(CHAIN, ("f", "m"), N), 1)
        self.assertEqual(plain_count(CHAIN, ("f", "f", "m"), N), 1)
        self.assertEqual(plain_count(CHAIN, ("f", "m", "g"), N), 2)
        self.assertEqual(plain_count(CHAIN, FFMG, N), 3)
        self.assertEqual(plain_count(CHAIN, ("f", "f", "f"), read_form("n/n")), 1)
        self.assertIs(type(plain_count(CHAIN, FFMG, N)), int)

    def test_of_one_word_and_none(self):
        self.assertEqual(plain_count(CHAIN, ("m",), N), 1)
        self.assertEqual(plain_count(CHAIN, (), N), 0)

    def test_a_form_that_the_sentence_has_not(self):
        self.assertEqual(plain_count(CHAIN, ("f", "m"), read_form("s")), 0)
        self.assertEqual(plain_count(CHAIN, ("m", "m"), N), 0)
        self.assertEqual(plain_count(CHAIN, ("f", "m"), read_form("/".join(["n"] * 12))), 0)

    def test_ten_words_with_thousands_of_readings(self):
        # So many orders are there to put nine around the middle one.
        for ahead, count in enumerate([1, 9, 36, 84, 126, 126, 84, 36, 9, 1]):
            words = ("f",) * ahead + ("m",) + ("g",) * (9 - ahead)
            self.assertEqual(how_many(CHAIN, words, N), 4862)
            self.assertEqual(plain_count(CHAIN, words, N), count)


class PlainAtTest(unittest.TestCase):
    def test_in_the_order_of_all_readings(self):
        self.assertEqual([plain_at(CHAIN, FFMG, N, number) for number in range(3)],
                         [plain for plain, numbers in TOGETHER])

    def test_one_word(self):
        self.assertEqual(plain_at(CHAIN, ("m",), N, 0), m(0))

    def test_numbers_that_there_are_not(self):
        for words, form, count in [(FFMG, N, 3), (("f",) * 9 + ("m",), N, 1), (("m",), N, 1), ((), N, 0),
                                   (("m", "m"), N, 0), (FFMG, read_form("s"), 0)]:
            for number in [-1, -SIXTY, count, count + 1, SIXTY]:
                self.assertEqual(refusal(plain_at, CHAIN, words, form, number),
                                 (NoNumber, {"number": number, "count": count}))
            if count:
                self.assertIsNone(refusal(plain_at, CHAIN, words, form, count - 1))

    def test_ten_words_with_thousands_of_readings(self):
        words = ("f",) * 5 + ("m",) + ("g",) * 4
        told = [plain_at(CHAIN, words, N, number) for number in range(126)]
        self.assertEqual(len(set(told)), 126)
        numbers = [number_of(CHAIN, words, reading)[1] for reading in told]
        self.assertEqual(numbers, sorted(numbers))
        for reading in told:
            self.assertEqual(one_turns(reading), [])
            self.assertEqual(formed(CHAIN, words, reading), (0, 10, N))


class PutTogetherTest(unittest.TestCase):
    def test_ordinary(self):
        told = put_together(CHAIN, FFMG, N)
        self.assertEqual(told, TOGETHER)
        self.assertIsInstance(told, list)
        for pair in told:
            self.assertIsInstance(pair, tuple)
            self.assertIsInstance(pair[1], list)

    def test_one_word_and_none(self):
        self.assertEqual(put_together(CHAIN, ("m",), N), [(m(0), [0])])
        for words, form in [((), N), (("m", "m"), N), (FFMG, read_form("s"))]:
            for most in [0, 1, 1000]:
                self.assertEqual(put_together(CHAIN, words, form, most), [])
            self.assertEqual(put_together(CHAIN, words, form), [])

    def test_all_to_one(self):
        told = put_together(CHAIN, ("f",) * 5 + ("m",), N)
        self.assertEqual(told, [(plain_at(CHAIN, ("f",) * 5 + ("m",), N, 0), list(range(42)))])

    def test_more_than_a_told_most(self):
        self.assertEqual(put_together(CHAIN, FFMG, N, 5), TOGETHER)
        self.assertEqual(put_together(CHAIN, FFMG, N, 1000), TOGETHER)
        for most in [0, 3, 4]:
            self.assertEqual(refusal(put_together, CHAIN, FFMG, N, most), (TooMany, {"count": 5, "most": most}))

    def test_a_most_that_is_left_out(self):
        self.assertEqual(refusal(put_together, CHAIN, ("f",) * 7 + ("m",), N), (TooMany, {"count": 429, "most": 200}))
        told = put_together(MANY, TWO_HUNDRED, N)
        self.assertEqual(sorted(number for plain, numbers in told for number in numbers), list(range(200)))
        self.assertEqual(refusal(put_together, MANY, TWO_HUNDRED, N, 199), (TooMany, {"count": 200, "most": 199}))

    def test_hundreds(self):
        words = ("f",) * 4 + ("m",) + ("g",) * 3
        told = put_together(CHAIN, words, N, 429)
        self.assertEqual(len(told), 35)
        self.assertEqual(sorted(number for plain, numbers in told for number in numbers), list(range(429)))

    def test_lists_are_the_asker_s_own(self):
        before = copy.deepcopy((CHAIN, FFMG))
        first = put_together(CHAIN, FFMG, N)
        second = put_together(CHAIN, FFMG, N)
        for pair in second:
            pair[1].clear()
        second.clear()
        self.assertEqual(first, TOGETHER)
        self.assertEqual(put_together(CHAIN, FFMG, N), TOGETHER)
        self.assertEqual((CHAIN, FFMG), before)


class NoWordTest(unittest.TestCase):
    def test_ahead_of_all_else(self):
        for words, place in [(("x", "f", "m"), 0), (("f", "x", "m"), 1), (("f", "m", "x"), 2), (("f", "x", "y"), 1),
                             (("",), 0), (("m", ""), 1), (("f",) * 9 + ("x",), 9)]:
            expected = (NoWord, {"word": words[place], "place": place})
            for form in [N, read_form("s")]:
                self.assertEqual(refusal(plain_count, CHAIN, words, form), expected)
                for number in [-1, 0, SIXTY]:
                    self.assertEqual(refusal(plain_at, CHAIN, words, form, number), expected)
                for most in [0, 1000]:
                    self.assertEqual(refusal(put_together, CHAIN, words, form, most), expected)
                self.assertEqual(refusal(put_together, CHAIN, words, form), expected)


class ByChanceTest(unittest.TestCase):
    """What holds of each book and each sentence (3, 26, 27)."""

    def test_against_all_readings(self):
        many = 0
        for seed in range(250):
            sower = Sower(seed)
            book = sower.book(most_forms=4)
            words = sower.sentence(book, 1 + seed % 6)
            for text, readings in grouped(readings_by_words(book, words, 0, len(words))).items():
                self.check(book, words, read_form(text), readings)
                many += len(readings)
        self.assertGreater(many, 3000)

    def check(self, book, words, form, readings):
        plain_ones = [reading for reading in readings if not one_turns(reading)]
        self.assertEqual(plain_count(book, words, form), len(plain_ones))
        for number in range(0, len(plain_ones), 3):
            self.assertEqual(plain_at(book, words, form, number), plain_ones[number])
        self.assertEqual(refusal(plain_at, book, words, form, len(plain_ones)),
                         (NoNumber, {"number": len(plain_ones), "count": len(plain_ones)}))
        meant = {}
        for number, reading in enumerate(readings):
            meant.setdefault(plain_of(unknown(reading)), []).append(number)
        # Readings that mean the same whatever the words mean have just one plain one among them.
        expected = []
        for plain in plain_ones:
            expected.append((plain, meant.pop(plain_of(unknown(plain)))))
        self.assertEqual(meant, {})
        self.assertEqual(put_together(book, words, form, 1000), expected)

    def test_ten_words(self):
        most = 0
        for seed in range(50):
            sower = Sower(seed)
            book = sower.book()
            words = sower.sentence(book, 10)
            for form in [form for i, j, form, ways in chart(book, words) if j - i == 10][:2]:
                count = plain_count(book, words, form)
                for number in sorted({0, count // 3, count // 2, count - 1}):
                    reading = plain_at(book, words, form, number)
                    self.assertTrue(is_plain(reading))
                    self.assertEqual(formed(book, words, reading), (0, 10, form))
                    whole = number_of(book, words, reading)[1]
                    self.assertEqual(reading_at(book, words, form, whole), reading)
                    self.assertGreaterEqual(whole, number)
                most = max(most, how_many(book, words, form))
        self.assertGreater(most, 100000)

    def test_thousands_of_readings_whose_plain_ones_are_counted(self):
        words = ("b",) * 8
        readings = all_readings(MANY, words, N, 2000)
        self.assertGreater(len(readings), 1000)
        plain_ones = [reading for reading in readings if turns(reading) == [reading]]
        self.assertEqual(plain_count(MANY, words, N), len(plain_ones))
        self.assertEqual([plain_at(MANY, words, N, number) for number in range(len(plain_ones))], plain_ones)


if __name__ == "__main__":
    unittest.main()
