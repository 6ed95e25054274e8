import itertools
import unittest

from slashwise.booktexts import show_book
from slashwise.chart import chart
from slashwise.errors import Misfit, NoBasic, NoForm, NoRow, NoWord, TooMany, Twice
from slashwise.forms import read_form, show_form
from slashwise.meanings import meaning
from slashwise.report import report, words_in
from slashwise.steps import plain_of
from slashwise.telling import how_many
from slashwise.termtexts import show_term
from tests.sowing import Sower, grouped, one_turns, readings_by_words
from tests.things import no_texts, refusal

TEXT = "\n".join([
    "basics s n",
    "name mary n",
    "name love (n>(n>s))",
    "name old (n>n)",
    "name far (n>n)",
    "word mary n mary",
    "word loves s\\n/n [n][n]love(#0)(#1)",
    "word old n/n old",
    "word older n\\n [n]old(#0)",
    "word far n\\n far",
    "word same n/n [n]#0",
    "word saw n mary",
    "word saw s\\n/n ([(n>(n>s))]#0)(love)",
    "word late s\\s [s]#0",
])


def rows(*lines):
    return "\n".join(lines)


class WordsInTest(unittest.TestCase):
    def test_ordinary(self):
        self.assertEqual(words_in("mary"), ("mary",))
        self.assertEqual(words_in("mary loves mary"), ("mary", "loves", "mary"))
        self.assertIsInstance(words_in("mary loves"), tuple)

    def test_none(self):
        self.assertEqual(words_in(""), ())

    def test_blanks(self):
        self.assertEqual(words_in("mary  loves"), ("mary", "", "loves"))
        self.assertEqual(words_in(" mary"), ("", "mary"))
        self.assertEqual(words_in("mary "), ("mary", ""))
        self.assertEqual(words_in(" "), ("", ""))
        self.assertEqual(words_in("  "), ("", "", ""))
        self.assertEqual(words_in("mary\nloves mary"), ("mary\nloves", "mary"))

    def test_any_words(self):
        self.assertEqual(words_in("Mary ~ s/n #0"), ("Mary", "~", "s/n", "#0"))

    def test_ten_and_eleven(self):
        self.assertEqual(words_in(" ".join(["a"] * 10)), ("a",) * 10)
        self.assertEqual(words_in(" " * 9), ("",) * 10)
        for many in [11, 12, 40]:
            self.assertEqual(refusal(words_in, " ".join(["a"] * many)), (TooMany, {"count": many, "most": 10}))
            self.assertEqual(refusal(words_in, " " * (many - 1)), (TooMany, {"count": many, "most": 10}))
        self.assertEqual(refusal(words_in, " ".join(["a"] * 10) + " "), (TooMany, {"count": 11, "most": 10}))
        self.assertEqual(refusal(words_in, " ".join(["a"] * 9) + "  a"), (TooMany, {"count": 11, "most": 10}))


class ReportTest(unittest.TestCase):
    def test_one_reading(self):
        self.assertEqual(report(TEXT, "mary loves mary", "s"), rows("readings 1 plain 1", "0: love(mary)(mary)"))
        self.assertEqual(report(TEXT, "mary", "n"), rows("readings 1 plain 1", "0: mary"))

    def test_terms_are_brought_to_plain_form(self):
        self.assertEqual(report(TEXT, "mary saw mary", "s"), rows("readings 1 plain 1", "0: love(mary)(mary)"))
        self.assertEqual(report(TEXT, "saw", "s\\n/n"), rows("readings 1 plain 1", "0: love"))
        self.assertEqual(report(TEXT, "loves", "s\\n/n"), rows("readings 1 plain 1", "0: [n][n]love(#0)(#1)"))
        self.assertEqual(report(TEXT, "loves old", "s\\n/n"),
                         rows("readings 1 plain 1", "0: [n][n]love(#0)(old(#1))"))

    def test_plain_readings_that_mean_the_same_by_the_book(self):
        self.assertEqual(report(TEXT, "old mary older", "n"), rows("readings 2 plain 2", "0 1: old(old(mary))"))
        self.assertEqual(report(TEXT, "old old mary older", "n"),
                         rows("readings 5 plain 3", "0 1 2: old(old(old(mary)))"))

    def test_plain_readings_that_mean_different_things(self):
        self.assertEqual(report(TEXT, "old mary far", "n"),
                         rows("readings 2 plain 2", "0: old(far(mary))", "1: far(old(mary))"))
        self.assertEqual(report(TEXT, "old old mary far", "n"), rows(
            "readings 5 plain 3", "0: old(old(far(mary)))", "1: old(far(old(mary)))", "2: far(old(old(mary)))"))

    def test_some_the_same_and_some_not(self):
        self.assertEqual(report(TEXT, "old same mary far", "n"), rows(
            "readings 5 plain 3", "0 1: old(far(mary))", "2: far(old(mary))"))
        self.assertEqual(report(TEXT, "same old mary far", "n"), rows(
            "readings 5 plain 3", "0: old(far(mary))", "1 2: far(old(mary))"))
        self.assertEqual(report(TEXT, "old mary far older", "n"), rows(
            "readings 5 plain 3", "0 1: old(old(far(mary)))", "2: old(far(old(mary)))"))

    def test_numbers_between_others(self):
        self.assertEqual(report(TEXT, "old old mary far older", "n"), rows(
            "readings 14 plain 6", "0 1 3: old(old(old(far(mary))))", "2 4: old(old(far(old(mary))))",
            "5: old(far(old(old(mary))))"))

    def test_where_nothing_is_read(self):
        self.assertEqual(report(TEXT, "old mary loves", "s"), rows(
            "readings 0 plain 0", "0 1 n/n", "1 2 n", "2 3 s\\n/n", "0 2 n", "1 3 -", "0 3 -"))

    def test_where_nothing_is_read_to_this_form(self):
        self.assertEqual(report(TEXT, "mary loves mary", "n"), rows(
            "readings 0 plain 0", "0 1 n", "1 2 s\\n/n", "2 3 n", "0 2 -", "1 3 s\\n", "0 3 s"))
        self.assertEqual(report(TEXT, "mary", "pp"), rows("readings 0 plain 0", "0 1 n"))

    def test_the_forms_of_a_stretch_in_order(self):
        text = rows("basics n nn", "name x n", "name y nn", "name f (n>n)", "name h ((n>n)>n)", "word w nn y",
                    "word w n\\n f", "word w n/n f", "word w n/(n/n) h", "word w n x")
        self.assertEqual(report(text, "w w", "s"), rows(
            "readings 0 plain 0", "0 1 n n/(n/n) n/n n\\n nn", "1 2 n n/(n/n) n/n n\\n nn", "0 2 n n/(n/n) n/n n\\n"))

    def test_ten_words_where_nothing_is_read(self):
        told = report(TEXT, " ".join(["mary"] * 10), "s").split("\n")
        self.assertEqual(len(told), 56)
        self.assertEqual(told[1:11], [f"{i} {i + 1} n" for i in range(10)])
        self.assertEqual(told[11:20], [f"{i} {i + 2} -" for i in range(9)])
        self.assertEqual(told[-3:], ["0 9 -", "1 10 -", "0 10 -"])

    def test_no_words(self):
        self.assertEqual(report(TEXT, "", "s"), "readings 0 plain 0")
        self.assertEqual(report(TEXT, "", "s", 0), "readings 0 plain 0")

    def test_ten_words_with_thousands_of_readings(self):
        text = " ".join(["old"] * 9 + ["mary"])
        self.assertEqual(report(TEXT, text, "n"),
                         rows("readings 4862 plain 1", "0: " + "old(" * 9 + "mary" + ")" * 9))
        text = " ".join(["old"] * 5 + ["mary"] + ["older"] * 4)
        self.assertEqual(report(TEXT, text, "n", 126), rows(
            "readings 4862 plain 126", " ".join(map(str, range(126))) + ": " + "old(" * 9 + "mary" + ")" * 9))

    def test_more_plain_readings_than_a_told_most(self):
        for most in [3, 4, 1000]:
            self.assertEqual(report(TEXT, "old old mary far", "n", most).split("\n")[0], "readings 5 plain 3")
        for most in [0, 1, 2]:
            self.assertEqual(refusal(report, TEXT, "old old mary far", "n", most),
                             (TooMany, {"count": 3, "most": most}))
        self.assertEqual(report(TEXT, "mary mary", "n", 0).split("\n")[0], "readings 0 plain 0")

    def test_a_most_that_is_left_out(self):
        text = " ".join(["old"] * 2 + ["mary"] + ["far"] * 7)
        self.assertEqual(report(TEXT, text, "n").split("\n")[0], "readings 4862 plain 36")
        text = " ".join(["old"] * 3 + ["mary"] + ["far"] * 6)
        self.assertEqual(refusal(report, TEXT, text, "n"), (TooMany, {"count": 84, "most": 40}))

    def test_forty_and_forty_one_where_the_most_is_left_out(self):
        text = rows("basics n", "name a n", "name b (n>(n>n))", "word a n a", "word a n\\n\\n b", "word a n\\n/n b")
        self.assertEqual(report(text, "a a a a a a", "n\\n").split("\n")[0].split(" ")[2:], ["plain", "40"])
        self.assertEqual(refusal(report, text, "a a a a a a", "n\\n", 39), (TooMany, {"count": 40, "most": 39}))
        text = rows("basics n", "name a n", "name b (n>n)", "name c ((n>n)>(n>n))", "name d ((n>n)>n)", "word a n a",
                    "word a n/n b", "word b n\\n b", "word b n/n/(n/n) c", "word b n\\(n\\n) d")
        self.assertEqual(refusal(report, text, "a a b b a b a a a b", "n"), (TooMany, {"count": 41, "most": 40}))
        self.assertIsNone(refusal(report, text, "a a b b a b a a a b", "n", 41))

    def test_large_terms(self):
        term = "f(#0)"
        for k in range(8):
            term = f"([n]#0)({term})"
        text = rows("basics n", "name f (n>n)", "name m n", f"word f n/n [n]{term}", f"word g n\\n [n]{term}",
                    "word m n m")
        self.assertEqual(report(text, "f f f f f m g g g g", "n", 200), rows(
            "readings 4862 plain 126", " ".join(map(str, range(126))) + ": " + "f(" * 9 + "m" + ")" * 9))


def meaning_rows(book, words, form_text):
    """The rows of the meanings, told once more by all readings."""
    readings = grouped(readings_by_words(book, words, 0, len(words)))[form_text]
    groups = {}
    for number, reading in enumerate([reading for reading in readings if not one_turns(reading)]):
        groups.setdefault(plain_of(meaning(book, words, reading)), []).append(str(number))
    return [" ".join(numbers) + ": " + show_term(term) for term, numbers in groups.items()]


class RefusalsTest(unittest.TestCase):
    def test_the_book_s_text(self):
        for text, expected in [
            ("", (NoRow, {"row": 1})), ("basics n\n", (NoRow, {"row": 2})), ("basics n n", (Twice, {"row": 1})),
            ("basics n\nname x s", (NoBasic, {"row": 2})), ("basics n\nname x n\nword x n/n x", (Misfit, {"row": 3})),
        ]:
            self.assertEqual(refusal(report, text, "x", "n"), expected)
        for thing in no_texts():
            self.assertEqual(refusal(report, thing, "mary", "n"), (NoRow, {"row": 0}))

    def test_the_form_s_text(self):
        for thing in no_texts() + ["", " ", "n ", "N", "(n)", "n/", "n/(n)", "/".join(["n"] * 13), "s n", "(" * 900]:
            self.assertEqual(refusal(report, TEXT, "mary", thing), (NoForm, {}))

    def test_the_sentence_s_text(self):
        for text, word, place in [("john", "john", 0), ("mary john", "john", 1), ("mary  loves", "", 1),
                                  (" mary", "", 0), ("mary ", "", 1), ("john loves jane", "john", 0), (" ", "", 0),
                                  ("mary loves\nmary", "loves\nmary", 1)]:
            self.assertEqual(refusal(report, TEXT, text, "s"), (NoWord, {"word": word, "place": place}))
        for text, count in [(" ".join(["mary"] * 11), 11), (" " * 11, 12), (" ".join(["john"] * 40), 40)]:
            self.assertEqual(refusal(report, TEXT, text, "s"), (TooMany, {"count": count, "most": 10}))

    def test_the_one_that_goes_first(self):
        # Whichever of these are due, the first of them goes first; eleven words are unknown words, too.
        wrong_book = (NoRow, {"row": 1})
        wrong_form = (NoForm, {})
        too_long = (TooMany, {"count": 11, "most": 10})
        no_word = (NoWord, {"word": "john", "place": 1})
        too_many = (TooMany, {"count": 1, "most": 0})
        for book, form, text, most in itertools.product([False, True], [False, True], ["long", "unknown", "right"],
                                                        [False, True]):
            due = [(book, wrong_book), (form, wrong_form), (text == "long", too_long), (text == "unknown", no_word),
                   (most, too_many)]
            expected = [told for is_due, told in due if is_due]
            given = ("wrong" if book else TEXT,
                     {"long": " ".join(["john"] * 11), "unknown": "mary john", "right": "mary"}[text],
                     "N" if form else "n", 0 if most else 40)
            self.assertEqual(refusal(report, *given), expected[0] if expected else None)


class ByChanceTest(unittest.TestCase):
    """What holds of each book and each sentence (3, 29)."""

    def test_against_all_readings(self):
        read = 0
        for seed in range(150):
            sower = Sower(seed)
            book = sower.book()
            words = sower.sentence(book, seed % 6)
            groups = grouped(readings_by_words(book, words, 0, len(words))) if words else {}
            for form in dict.fromkeys([*groups, "s", "n", "n/n"]):
                told = report(show_book(book), " ".join(words), form, 1000).split("\n")
                readings = groups.get(form, [])
                plain = len([reading for reading in readings if not one_turns(reading)])
                self.assertEqual(told[0], f"readings {len(readings)} plain {plain}")
                self.assertEqual(len(readings), how_many(book, words, read_form(form)))
                if readings:
                    self.assertEqual(told[1:], meaning_rows(book, words, form))
                    read += 1
                else:
                    self.assertEqual(told[1:], stretch_rows(book, words))
        self.assertGreater(read, 100)


def stretch_rows(book, words):
    """The rows of the stretches, told once more by the table."""
    table = chart(book, words)
    found = []
    for size in range(1, len(words) + 1):
        for i in range(len(words) - size + 1):
            forms = sorted(show_form(row[2]) for row in table if row[:2] == (i, i + size))
            found.append(" ".join([str(i), str(i + size)] + (forms or ["-"])))
    return found


if __name__ == "__main__":
    unittest.main()
