import copy
import unittest

from slashwise.books import forms_of, term_of
from slashwise.booktexts import read_book
from slashwise.errors import NoForm, NoWord
from slashwise.forms import read_form, show_form
from slashwise.termtexts import read_term

BOOK = read_book("\n".join([
    "basics s n pp",
    "name mary n",
    "name see (n>(n>s))",
    "name at (n>pp)",
    "name go (pp>(n>s))",
    "word mary n mary",
    "word saw s\\n/n see",
    "word saw s/n/n [n][n]see(#1)(#0)",
    "word saw n mary",
    "word saw s/n\\n [n][n]see(#0)(#1)",
    "word at pp/n at",
    "word at pp\\n at",
    "word went s\\n/pp go",
    "word any s/s [s]#0",
]))


class FormsOfTest(unittest.TestCase):
    def test_in_order(self):
        self.assertEqual([show_form(form) for form in forms_of(BOOK, "saw")], ["n", "s/n/n", "s/n\\n", "s\\n/n"])
        self.assertEqual([show_form(form) for form in forms_of(BOOK, "at")], ["pp/n", "pp\\n"])
        self.assertEqual(forms_of(BOOK, "mary"), [("basic", "n")])
        self.assertEqual(forms_of(BOOK, "any"), [read_form("s/s")])

    def test_as_python_sorts_texts_and_not_tuples(self):
        texts = ["n/(n/n)", "n/n", "n/n/n", "n\\(n/n)", "nn", "n", "n\\n"]
        terms = [("name", "x")] * len(texts)
        words = tuple(("w", read_form(text), term) for text, term in zip(texts, terms))
        book = (("n", "nn"), (), words)
        self.assertEqual([show_form(form) for form in forms_of(book, "w")], sorted(texts))
        self.assertEqual(sorted(texts), ["n", "n/(n/n)", "n/n", "n/n/n", "n\\(n/n)", "n\\n", "nn"])

    def test_a_word_that_the_book_has_not(self):
        for book in [BOOK, (("n",), (), ())]:
            for word in ["john", "", "sa", "saww", "n", "see", "basics", "MARY", "mary "]:
                with self.assertRaises(NoWord) as caught:
                    forms_of(book, word)
                self.assertIs(type(caught.exception), NoWord)
                self.assertEqual(vars(caught.exception), {"word": word, "place": 0})

    def test_the_list_is_new_and_the_asker_s_own(self):
        before = copy.deepcopy(BOOK)
        first = forms_of(BOOK, "saw")
        self.assertIsInstance(first, list)
        first.clear()
        self.assertEqual(len(forms_of(BOOK, "saw")), 4)
        self.assertEqual(BOOK, before)


class TermOfTest(unittest.TestCase):
    def test_by_its_form(self):
        for word, form, term in [("saw", "s\\n/n", "see"), ("saw", "s/n/n", "[n][n]see(#1)(#0)"), ("saw", "n", "mary"),
                                 ("saw", "s/n\\n", "[n][n]see(#0)(#1)"), ("at", "pp\\n", "at"),
                                 ("any", "s/s", "[s]#0")]:
            self.assertEqual(term_of(BOOK, word, read_form(form)), read_term(term))

    def test_each_triple_of_a_book(self):
        for word, form, term in BOOK[2]:
            self.assertEqual(term_of(BOOK, word, form), term)

    def test_a_word_that_the_book_has_not(self):
        for word in ["john", "", "see"]:
            for form in ["n", "s\\n/n", "x"]:
                with self.assertRaises(NoWord) as caught:
                    term_of(BOOK, word, read_form(form))
                self.assertIs(type(caught.exception), NoWord)
                self.assertEqual(vars(caught.exception), {"word": word, "place": 0})

    def test_a_form_that_the_word_has_not(self):
        for word, form in [("mary", "s"), ("saw", "s\\n\\n"), ("saw", "s"), ("at", "n"), ("mary", "x"), ("any", "n/n"),
                           ("any", "any/any")]:
            with self.assertRaises(NoForm) as caught:
                term_of(BOOK, word, read_form(form))
            self.assertIs(type(caught.exception), NoForm)


if __name__ == "__main__":
    unittest.main()
