import copy
import unittest

from slashwise.booktexts import read_book
from slashwise.chart import chart
from slashwise.forms import kind_of_form, read_form
from slashwise.meanings import meaning, unknown
from slashwise.readings import formed
from slashwise.steps import done_at, is_plain_term, places, plain_of, steps_of
from slashwise.telling import all_readings, how_many, reading_at
from slashwise.terms import is_closed, is_sparing, kind_of, size_of
from slashwise.termtexts import read_term
from tests.sowing import Sower, readings_by_words, word
from tests.things import bound, leaf, of

BOOK = read_book("\n".join([
    "basics s n pp",
    "name mary n",
    "name love (n>(n>s))",
    "name old (n>n)",
    "name at (n>pp)",
    "word mary n ([n]#0)(mary)",
    "word loves s\\n/n [n][n]love(#0)(#1)",
    "word old n/n old",
    "word there n\\n [n]old(#0)",
    "word late s\\s [s]#0",
    "word at pp/n at",
    "word saw n mary",
    "word saw s\\n/n love",
]))
MARY = read_term("([n]#0)(mary)")
LOVES = read_term("[n][n]love(#0)(#1)")
OLD = read_term("old")
THERE = read_term("[n]old(#0)")
LATE = read_term("[s]#0")


class MeaningTest(unittest.TestCase):
    def test_one_word(self):
        self.assertEqual(meaning(BOOK, ("mary",), word(0, "n")), MARY)
        self.assertEqual(meaning(BOOK, ("old", "loves"), word(1, "s\\n/n")), LOVES)

    def test_by_the_word_and_its_form(self):
        self.assertEqual(meaning(BOOK, ("saw",), word(0, "n")), read_term("mary"))
        self.assertEqual(meaning(BOOK, ("saw",), word(0, "s\\n/n")), read_term("love"))
        whole = ("<", word(0, "n"), (">", word(1, "s\\n/n"), word(2, "n")))
        self.assertEqual(meaning(BOOK, ("saw",) * 3, whole), read_term("love(mary)(mary)"))

    def test_each_rule(self):
        self.assertEqual(meaning(BOOK, ("old", "mary"), (">", word(0, "n/n"), word(1, "n"))), of(OLD, MARY))
        self.assertEqual(meaning(BOOK, ("mary", "there"), ("<", word(0, "n"), word(1, "n\\n"))), of(THERE, MARY))
        self.assertEqual(meaning(BOOK, ("at", "old"), (">>", word(0, "pp/n"), word(1, "n/n"))),
                         ("fn", "n", of(("name", "at"), of(OLD, bound(0)))))
        self.assertEqual(meaning(BOOK, ("there", "there"), ("<<", word(0, "n\\n"), word(1, "n\\n"))),
                         ("fn", "n", of(THERE, of(THERE, bound(0)))))

    def test_all_four_and_not_brought_to_plain_form(self):
        words = ("old", "mary", "loves", "old", "saw", "late", "late")
        subject = (">", word(0, "n/n"), word(1, "n"))
        verb = (">", (">>", word(2, "s\\n/n"), word(3, "n/n")), word(4, "n"))
        reading = ("<", ("<", subject, verb), ("<<", word(5, "s\\s"), word(6, "s\\s")))
        self.assertEqual(formed(BOOK, words, reading), (0, 7, read_form("s")))
        said = of(of(("fn", "n", of(LOVES, of(OLD, bound(0)))), ("name", "mary")), of(OLD, MARY))
        expected = of(("fn", "s", of(LATE, of(LATE, bound(0)))), said)
        told = meaning(BOOK, words, reading)
        self.assertEqual(told, expected)
        self.assertFalse(is_plain_term(told))
        self.assertEqual(plain_of(told), read_term("love(old(mary))(old(mary))"))

    def test_of_a_part_of_the_sentence(self):
        self.assertEqual(meaning(BOOK, ("john", "old", "mary", ""), (">", word(1, "n/n"), word(2, "n"))), of(OLD, MARY))

    def test_ten_words(self):
        words = ("old",) * 9 + ("saw",)
        reading = word(9, "n")
        expected = "mary"
        for place in reversed(range(9)):
            reading = (">", word(place, "n/n"), reading)
            expected = f"old({expected})"
        self.assertEqual(meaning(BOOK, words, reading), read_term(expected))
        for number in range(0, 4862, 500):
            told = meaning(BOOK, words, reading_at(BOOK, words, read_form("n"), number))
            self.assertEqual(plain_of(told), read_term(expected))


class UnknownTest(unittest.TestCase):
    def test_one_word(self):
        self.assertEqual(unknown(word(0, "n")), leaf(0, "n"))
        self.assertEqual(unknown(word(9, "s\\n/n")), leaf(9, "s\\n/n"))

    def test_each_rule(self):
        self.assertEqual(unknown((">", word(0, "s/n"), word(1, "n"))), of(leaf(0, "s/n"), leaf(1, "n")))
        self.assertEqual(unknown(("<", word(3, "n"), word(4, "s\\n"))), of(leaf(4, "s\\n"), leaf(3, "n")))
        self.assertEqual(unknown((">>", word(0, "s/n"), word(1, "n/(pp/n)"))),
                         ("fn", ("n", "pp"), of(leaf(0, "s/n"), of(leaf(1, "n/(pp/n)"), bound(0)))))
        self.assertEqual(unknown(("<<", word(0, "n\\pp"), word(1, "s\\n"))),
                         ("fn", "pp", of(leaf(1, "s\\n"), of(leaf(0, "n\\pp"), bound(0)))))

    def test_rules_within_one_another(self):
        reading = (">", (">>", (">>", word(0, "a/b"), word(1, "b/c")), word(2, "c/d")), word(3, "d"))
        inner = ("fn", "c", of(leaf(0, "a/b"), of(leaf(1, "b/c"), bound(0))))
        self.assertEqual(unknown(reading), of(("fn", "d", of(inner, of(leaf(2, "c/d"), bound(0)))), leaf(3, "d")))
        self.assertEqual(plain_of(unknown(reading)),
                         of(leaf(0, "a/b"), of(leaf(1, "b/c"), of(leaf(2, "c/d"), leaf(3, "d")))))

    def test_the_same_word_at_two_places_has_two_leaves(self):
        reading = (">", word(0, "n/n"), (">", word(1, "n/n"), word(2, "n")))
        self.assertEqual(unknown(reading), of(leaf(0, "n/n"), of(leaf(1, "n/n"), leaf(2, "n"))))


class ByChanceTest(unittest.TestCase):
    """What holds of each book and each sentence (3, 23)."""

    def test_kinds_and_steps(self):
        many = 0
        for seed in range(150):
            sower = Sower(seed)
            book = sower.book()
            words = sower.sentence(book, 1 + seed % 6)
            before = copy.deepcopy((book, words))
            for form, reading in readings_by_words(book, words, 0, len(words))[:12]:
                for term in [meaning(book, words, reading), unknown(reading)]:
                    self.check(book[1], form, term)
                    many += 1
            self.assertEqual((book, words), before)
        self.assertGreater(many, 500)

    def check(self, names, form, term):
        self.assertTrue(is_closed(term) and is_sparing(term))
        self.assertEqual(kind_of(names, term), kind_of_form(form))
        steps = steps_of(term)
        for ahead, behind in zip(steps, steps[1:]):
            self.assertEqual(kind_of(names, behind), kind_of_form(form))
            self.assertLessEqual(size_of(behind) + 3, size_of(ahead))
        last = term
        while not is_plain_term(last):
            last = done_at(last, places(last)[-1])
        self.assertEqual(last, steps[-1])

    def test_a_whole_sentence_of_ten_words(self):
        many = 0
        for seed in range(80):
            sower = Sower(seed)
            book = sower.book()
            words = sower.sentence(book, 10)
            for form in [form for i, j, form, ways in chart(book, words) if j - i == 10]:
                count = how_many(book, words, form)
                for number in sorted({0, count // 2, count - 1}):
                    reading = reading_at(book, words, form, number)
                    self.check(book[1], form, meaning(book, words, reading))
                    self.check(book[1], form, unknown(reading))
                    many += 1
        self.assertGreater(many, 30)

    def test_the_book_s_terms_in_the_places_of_the_leaves(self):
        words = ("old", "old", "mary", "there")
        for reading in all_readings(BOOK, words, read_form("n")):
            terms = {0: OLD, 1: OLD, 2: MARY, 3: THERE}
            self.assertEqual(meaning(BOOK, words, reading), filled(unknown(reading), terms))


def filled(term, terms):
    """A term with closed terms in the places of its leaves."""
    if term[0] == "leaf":
        return terms[term[1]]
    if term[0] == "fn":
        return ("fn", term[1], filled(term[2], terms))
    if term[0] == "of":
        return ("of", filled(term[1], terms), filled(term[2], terms))
    return term


if __name__ == "__main__":
    unittest.main()
