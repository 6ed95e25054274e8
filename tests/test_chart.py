import copy
import unittest

from slashwise.booktexts import read_book
from slashwise.chart import chart, counts
from slashwise.errors import NoWord
from slashwise.forms import is_form, parts_of, read_form, show_form
from tests.sowing import CHAIN, SIGNS, Sower, grouped, made_by_words, readings_by_words
from tests.things import refusal

BOOK = read_book("\n".join([
    "basics s n pp",
    "name mary n",
    "name love (n>(n>s))",
    "name sleep (n>s)",
    "name old (n>n)",
    "name at (n>pp)",
    "word mary n mary",
    "word loves s\\n/n love",
    "word sleeps s\\n sleep",
    "word old n/n old",
    "word there n\\n old",
    "word at pp/n at",
    "word lifts s/(s\\n) [(n>s)]#0(mary)",
    "word saw s\\n/n love",
    "word saw s/n\\n love",
    "word saw n mary",
    "word saw s\\n sleep",
]))
CATALAN = [1, 1, 2, 5, 14, 42, 132, 429, 1430, 4862]


def shown(table):
    """A table with the texts of its forms."""
    return [(i, j, show_form(form), [(sign, k, show_form(left), show_form(right)) for sign, k, left, right in ways])
            for i, j, form, ways in table]


class ChartTest(unittest.TestCase):
    def test_no_words(self):
        self.assertEqual(chart(BOOK, ()), [])
        self.assertEqual(chart((("n",), (), ()), ()), [])

    def test_one_word(self):
        self.assertEqual(chart(BOOK, ("mary",)), [(0, 1, ("basic", "n"), [])])
        self.assertEqual(shown(chart(BOOK, ("saw",))),
                         [(0, 1, "n", []), (0, 1, "s/n\\n", []), (0, 1, "s\\n", []), (0, 1, "s\\n/n", [])])

    def test_an_ordinary_sentence(self):
        self.assertEqual(shown(chart(BOOK, ("mary", "loves", "old", "mary"))), [
            (0, 1, "n", []), (1, 2, "s\\n/n", []), (2, 3, "n/n", []), (3, 4, "n", []),
            (1, 3, "s\\n/n", [(">>", 2, "s\\n/n", "n/n")]),
            (2, 4, "n", [(">", 3, "n/n", "n")]),
            (1, 4, "s\\n", [(">", 2, "s\\n/n", "n"), (">", 3, "s\\n/n", "n")]),
            (0, 4, "s", [("<", 1, "n", "s\\n")]),
        ])

    def test_each_is_of_the_kind_that_is_told(self):
        table = chart(BOOK, ("mary", "saw", "mary"))
        self.assertIsInstance(table, list)
        for row in table:
            self.assertIsInstance(row, tuple)
            self.assertEqual(len(row), 4)
            self.assertTrue(is_form(row[2]))
            self.assertIsInstance(row[3], list)
            for way in row[3]:
                self.assertIsInstance(way, tuple)
                self.assertEqual(len(way), 4)

    def test_each_rule(self):
        self.assertEqual(shown(chart(BOOK, ("old", "mary")))[2:], [(0, 2, "n", [(">", 1, "n/n", "n")])])
        self.assertEqual(shown(chart(BOOK, ("mary", "there")))[2:], [(0, 2, "n", [("<", 1, "n", "n\\n")])])
        self.assertEqual(shown(chart(BOOK, ("at", "old")))[2:], [(0, 2, "pp/n", [(">>", 1, "pp/n", "n/n")])])
        self.assertEqual(shown(chart(BOOK, ("there", "sleeps")))[2:], [(0, 2, "s\\n", [("<<", 1, "n\\n", "s\\n")])])

    def test_two_words_that_no_rule_puts_together(self):
        self.assertEqual(len(chart(BOOK, ("mary", "mary"))), 2)
        self.assertEqual(len(chart(BOOK, ("mary", "old"))), 2)
        self.assertEqual(len(chart(BOOK, ("mary", "mary", "mary"))), 3)

    def test_a_word_with_several_forms_and_at_several_places(self):
        table = shown(chart(BOOK, ("saw", "saw", "saw")))
        self.assertEqual([row[:3] for row in table if row[1] - row[0] == 1],
                         [(i, i + 1, text) for i in range(3) for text in ["n", "s/n\\n", "s\\n", "s\\n/n"]])
        self.assertEqual([row for row in table if row[:2] == (0, 3)], [
            (0, 3, "s", [("<", 1, "n", "s\\n"), (">", 2, "s/n", "n")]),
        ])
        self.assertEqual([row for row in table if row[:2] == (1, 3)], [
            (1, 3, "s", [("<", 2, "n", "s\\n")]),
            (1, 3, "s/n", [("<", 2, "n", "s/n\\n")]),
            (1, 3, "s\\n", [(">", 2, "s\\n/n", "n")]),
        ])

    def test_forms_whose_texts_sort_otherwise_than_the_forms_themselves(self):
        book = read_book("\n".join([
            "basics n nn s", "name x n", "name y nn", "name f (n>n)", "name g (n>(n>n))", "name h ((n>n)>n)",
            "word w nn y", "word w n\\n f", "word w n/n f", "word w n/n/n g", "word w n/(n/n) h", "word w n x",
            "word w n\\(n/n) h", "word w n\\n/n g",
        ]))
        texts = ["n", "n/(n/n)", "n/n", "n/n/n", "n\\(n/n)", "n\\n", "n\\n/n", "nn"]
        table = chart(book, ("w", "w"))
        self.assertEqual([show_form(row[2]) for row in table[:8]], texts)
        self.assertEqual([show_form(row[2]) for row in table[8:16]], texts)
        self.assertNotEqual(sorted(row[2] for row in table[:8]), [row[2] for row in table[:8]])
        made_ones = [show_form(row[2]) for row in table[16:]]
        self.assertEqual(made_ones, sorted(made_ones))
        self.assertNotEqual(sorted(row[2] for row in table[16:]), [row[2] for row in table[16:]])

    def test_shorter_stretches_first_then_by_i(self):
        table = chart(CHAIN, ("f", "f", "f", "m", "g", "g"))
        places = [(j - i, i) for i, j, form, ways in table]
        self.assertEqual(places, sorted(places))
        self.assertEqual(places[:6], [(1, i) for i in range(6)])

    def test_ways_by_k_ahead_of_the_signs(self):
        table = shown(chart(CHAIN, ("f", "m", "g")))
        self.assertEqual(table[-1], (0, 3, "n", [(">", 1, "n/n", "n"), ("<", 2, "n", "n\\n")]))
        both = read_book("basics n\nname f (n>n)\nname m n\nword w n/n f\nword w n\\n f\nword w n m")
        table = shown(chart(both, ("w", "w", "w")))
        self.assertEqual(table[-3:], [
            (0, 3, "n", [(">", 1, "n/n", "n"), ("<", 1, "n", "n\\n"), (">", 2, "n/n", "n"), ("<", 2, "n", "n\\n")]),
            (0, 3, "n/n", [(">>", 1, "n/n", "n/n"), (">>", 2, "n/n", "n/n")]),
            (0, 3, "n\\n", [("<<", 1, "n\\n", "n\\n"), ("<<", 2, "n\\n", "n\\n")]),
        ])

    def test_the_signs_in_the_rules_order_ahead_of_the_forms(self):
        book = read_book("\n".join([
            "basics n s", "name x n", "name y s", "name f (n>(n>n))", "name g (n>n)", "name h ((n>n)>(n>n))",
            "word l n/n/(n/n) h", "word l n x", "word l n/n g", "word l n/n/n f",
            "word r n/n g", "word r n/n\\n f", "word r n x", "word r n/n\\(n/n) h",
        ]))
        table = shown(chart(book, ("l", "r")))
        self.assertEqual([row for row in table if row[1] - row[0] == 2 and row[2] == "n/n"], [(0, 2, "n/n", [
            (">", 1, "n/n/(n/n)", "n/n"), (">", 1, "n/n/n", "n"),
            ("<", 1, "n", "n/n\\n"), ("<", 1, "n/n", "n/n\\(n/n)"),
            (">>", 1, "n/n", "n/n"),
        ])])

    def test_of_one_sign_by_left_and_then_by_right_forms(self):
        book = read_book("\n".join([
            "basics n nn s", "name x n", "name y nn", "name f (n>s)", "name g (nn>s)", "name h ((n>n)>s)",
            "name k (n>n)", "name l ((nn>n)>s)", "name o (n>(n>s))", "name p (nn>(n>s))",
            "word l s/nn g", "word l s/n f", "word l s/(n\\n) h", "word l s/(n/nn) l", "word l s/(n/n) h",
            "word r nn y", "word r n x", "word r n/n k", "word r n\\n k", "word a s/n/nn p", "word a s/n/n o",
        ]))
        table = shown(chart(book, ("l", "r")))
        self.assertEqual(table[9:], [
            (0, 2, "s", [(">", 1, "s/(n/n)", "n/n"), (">", 1, "s/(n\\n)", "n\\n"), (">", 1, "s/n", "n"),
                         (">", 1, "s/nn", "nn")]),
            (0, 2, "s/n", [(">>", 1, "s/n", "n/n")]),
        ])
        self.assertEqual(shown(chart(book, ("a", "r")))[-2:], [
            (0, 2, "s/n", [(">", 1, "s/n/n", "n"), (">", 1, "s/n/nn", "nn")]),
            (0, 2, "s/n/n", [(">>", 1, "s/n/n", "n/n")]),
        ])

    def test_ten_words_and_eleven(self):
        table = chart(CHAIN, ("f",) * 9 + ("m",))
        self.assertEqual(len(table), 55)
        self.assertEqual(shown(table)[-1], (0, 10, "n", [(">", k, "n/n", "n") for k in range(1, 10)]))
        self.assertEqual(len(chart(CHAIN, ("f",) * 10 + ("m",))), 66)

    def test_words_that_the_book_has_not(self):
        for words, place in [(("john", "old", "mary"), 0), (("old", "john", "mary"), 1), (("old", "mary", "john"), 2),
                             (("john",), 0), (("mary", "john", "", "john"), 1), (("mary", "", "john"), 1),
                             (("",), 0), (("old",) * 9 + ("n",), 9), (("mary", "Mary"), 1), (("john",) * 10, 0)]:
            expected = (NoWord, {"word": words[place], "place": place})
            self.assertEqual(refusal(chart, BOOK, words), expected)
            self.assertEqual(refusal(counts, BOOK, words), expected)

    def test_lists_are_the_asker_s_own(self):
        words = ("old", "old", "mary", "there", "saw")
        before = copy.deepcopy((BOOK, words))
        first = chart(BOOK, words)
        kept = copy.deepcopy(first)
        second = chart(BOOK, words)
        for row in second:
            row[3].append("mine")
        second.clear()
        self.assertEqual(first, kept)
        self.assertEqual(chart(BOOK, words), kept)
        lists = [row[3] for row in first]
        self.assertEqual(len(set(map(id, lists))), len(lists))
        self.assertEqual((BOOK, words), before)


class CountsTest(unittest.TestCase):
    def test_no_words_and_one(self):
        self.assertEqual(counts(BOOK, ()), [])
        self.assertEqual(counts(BOOK, ("mary",)), [1])
        self.assertEqual(counts(BOOK, ("saw",)), [1, 1, 1, 1])

    def test_an_ordinary_sentence(self):
        self.assertEqual(counts(BOOK, ("mary", "loves", "old", "mary")), [1, 1, 1, 1, 1, 1, 2, 2])

    def test_chains_of_one_to_ten_words(self):
        for size in range(1, 11):
            words = ("f",) * (size - 1) + ("m",)
            table = chart(CHAIN, words)
            told = counts(CHAIN, words)
            self.assertEqual(told, [CATALAN[j - i - 1] for i, j, form, ways in table])
            self.assertEqual(told[-1], CATALAN[size - 1])
            self.assertEqual(counts(CHAIN, words[::-1][:1] + ("g",) * (size - 1))[-1], CATALAN[size - 1])

    def test_a_sum_over_ways_of_products(self):
        both = read_book("basics n\nname f (n>n)\nname m n\nword w n/n f\nword w n\\n f\nword w n m")
        self.assertEqual(counts(both, ("w", "w", "w"))[-3:], [6, 2, 2])

    def test_the_list_is_the_asker_s_own(self):
        told = counts(CHAIN, ("f", "m"))
        told.append(7)
        self.assertEqual(counts(CHAIN, ("f", "m")), [1, 1, 1])
        for many in counts(CHAIN, ("f",) * 5):
            self.assertIs(type(many), int)


class WholeTableTest(unittest.TestCase):
    """What holds of each book and each sentence (3, 20)."""

    def test_by_chance_against_all_readings(self):
        readings = 0
        for seed in range(300):
            sower = Sower(seed)
            book = sower.book()
            words = sower.sentence(book, seed % 7)
            table = chart(book, words)
            expected = []
            many = []
            for size in range(1, len(words) + 1):
                for i in range(len(words) - size + 1):
                    groups = grouped(readings_by_words(book, words, i, i + size))
                    for text in sorted(groups):
                        expected.append((i, i + size, text))
                        many.append(len(groups[text]))
            self.assertEqual([row[:3] for row in shown(table)], expected)
            self.assertEqual(counts(book, words), many)
            readings += sum(many)
        self.assertGreater(readings, 5000)

    def test_the_table_is_closed_and_has_just_its_ways(self):
        for seed in range(60):
            sower = Sower(seed)
            book = sower.book(most_basics=6, most_forms=6)
            words = sower.sentence(book, 4 + seed % 7)
            self.check_closed(book, words, chart(book, words))

    def check_closed(self, book, words, table):
        cells = {}
        for i, j, form, ways in table:
            cells.setdefault((i, j), {})[form] = ways
        parts = {part for word, form, term in book[2] if word in words for part in parts_of(form)}
        for (i, j), forms in cells.items():
            if j == i + 1:
                self.assertEqual(set(forms), {form for word, form, term in book[2] if word == words[i]})
                self.assertEqual(set(map(len, forms.values())), {0})
            for form in forms:
                self.assertTrue(form in parts or (form[1] in parts and form[2] in parts))
        for i in range(len(words)):
            for j in range(i + 2, len(words) + 1):
                found = [(k, SIGNS.index(sign), show_form(left), show_form(right), sign, left, right, form)
                         for k in range(i + 1, j) for left in cells.get((i, k), {}) for right in cells.get((k, j), {})
                         for sign, form in made_by_words(left, right)]
                expected = {}
                for row in sorted(found):
                    expected.setdefault(row[7], []).append((row[4], row[0], row[5], row[6]))
                self.assertEqual(cells.get((i, j), {}), expected)

    def test_a_made_form_that_is_a_part_of_no_word_s_form(self):
        book = read_book("basics s n pp\nname f (n>s)\nname g (pp>n)\nword f s/n f\nword g n/pp g")
        self.assertEqual(shown(chart(book, ("f", "g")))[-1], (0, 2, "s/pp", [(">>", 1, "s/n", "n/pp")]))
        self.assertNotIn(read_form("s/pp"), [part for row in book[2] for part in parts_of(row[1])])


if __name__ == "__main__":
    unittest.main()
