import unittest

from slashwise.booktexts import read_book, show_book
from slashwise.errors import Misfit, NoBasic, NoRow, SlashError, Twice
from slashwise.forms import read_form
from slashwise.kinds import read_kind
from slashwise.terms import size_of
from slashwise.termtexts import read_term
from tests.things import no_texts

EIGHT = ["a", "b", "c", "d", "e", "f", "g", "h"]
HEAD = ["basics s n", "name mary n", "name see (n>(n>s))"]


def text_of(*rows):
    return "\n".join(rows)


def triple(word, form, term):
    return (word, read_form(form), read_term(term))


def name_of(number):
    """A name for a number below 676, each its own."""
    return "abcdefghijklmnopqrstuvwxyz"[number // 26] + "abcdefghijklmnopqrstuvwxyz"[number % 26]


def slashes(number, many):
    """s and so many slashes with n, by the number's bits: each number its own form."""
    return "s" + "".join("/n" if number >> k & 1 else "\\n" for k in range(many))


class BookTest(unittest.TestCase):
    def no(self, refusal, row, *rows):
        self.refused(refusal, row, text_of(*rows))

    def refused(self, refusal, row, text):
        with self.assertRaises(SlashError) as caught:
            read_book(text)
        self.assertIs(type(caught.exception), refusal, text)
        self.assertEqual(vars(caught.exception), {"row": row}, text)

    def words(self, *rows):
        return read_book(text_of(*rows))[2]


class ReadBookTest(BookTest):
    def test_an_ordinary_book(self):
        book = read_book(text_of(*HEAD, "word mary n mary", "word saw s\\n/n [n][n]see(#0)(#1)"))
        self.assertEqual(book, (
            ("s", "n"),
            (("mary", "n"), ("see", ("n", ("n", "s")))),
            (triple("mary", "n", "mary"), triple("saw", "s\\n/n", "[n][n]see(#0)(#1)")),
        ))
        self.assertIsInstance(book, tuple)
        for part in book:
            self.assertIsInstance(part, tuple)

    def test_basics_alone_or_with_names_or_with_words(self):
        self.assertEqual(read_book("basics n"), (("n",), (), ()))
        self.assertEqual(read_book("basics n\nname x n"), (("n",), (("x", "n"),), ()))
        self.assertEqual(read_book("basics n\nword x n/n [n]#0"), (("n",), (), (triple("x", "n/n", "[n]#0"),)))

    def test_the_order_of_the_rows_stays(self):
        book = read_book(text_of("basics z a", "name z a", "name a z", "word z a z", "word a z a", "word z z a"))
        self.assertEqual(book[0], ("z", "a"))
        self.assertEqual(book[1], (("z", "a"), ("a", "z")))
        self.assertEqual(book[2], (triple("z", "a", "z"), triple("a", "z", "a"), triple("z", "z", "a")))

    def test_words_of_the_rows_as_names(self):
        book = read_book(text_of("basics basics name word", "name name name", "word word name name"))
        self.assertEqual(book, (("basics", "name", "word"), (("name", "name"),), (triple("word", "name", "name"),)))

    def test_what_is_no_text(self):
        for thing in no_texts() + [("basics n",), ["basics n"], b"basics n", (("n",), (), ())]:
            self.refused(NoRow, 0, thing)

    def test_the_text_without_signs_and_rows_without_signs(self):
        self.refused(NoRow, 1, "")
        self.refused(NoRow, 1, "\n")
        self.refused(NoRow, 1, "\nbasics n")
        self.refused(NoRow, 2, "basics n\n")
        self.refused(NoRow, 2, "basics n\n\nname x n")
        self.refused(NoRow, 3, "basics n\nname x n\n")
        self.refused(NoRow, 3, "basics n\nname x n\n\n")
        self.refused(NoRow, 4, "basics n\nname x n\nword x n x\n")

    def test_blanks(self):
        for row in [" basics n", "basics  n", "basics n ", "basics n  s", " ", "basics\tn"]:
            self.no(NoRow, 1, row)
        for row in [" name x n", "name  x n", "name x  n", "name x n ", "name x\tn", " ", "  "]:
            self.no(NoRow, 2, "basics n", row)
        for row in [" word mary n mary", "word  mary n mary", "word mary  n mary", "word mary n  mary",
                    "word mary n mary ", "word mary n\tmary"]:
            self.no(NoRow, 4, *HEAD, row)

    def test_other_line_ends(self):
        self.refused(NoRow, 1, "basics n\r\nname x n")
        self.refused(NoRow, 1, "basics n\rname x n")
        self.refused(NoRow, 1, "basics n\x0bname x n")
        self.refused(NoRow, 1, "basics n\u2028name x n")

    def test_other_rows(self):
        for row in ["n", "Basics n", "basic n", "names x n", "Name x n", "words x n x", "WORD x n x", "x n", "# why",
                    "any"]:
            self.no(NoRow, 1, row)
            self.no(NoRow, 2, "basics n", row)
            self.no(NoRow, 5, *HEAD, "word mary n mary", row)

    def test_hundreds_of_brackets(self):
        for many in [300, 900]:
            for deep in ["(" * many, "(" * many + "n" + ")" * many, "n/(" * many + "n" + ")" * many, "(n>" * many,
                         "mary(" * many + "mary" + ")" * many, "[n]" * many + "#0", "[" + "(" * many + "]#0"]:
                self.no(NoRow, 2, "basics n", "name x " + deep)
                self.no(NoRow, 2, "basics n", "word x " + deep + " [n]#0")
                self.no(NoRow, 2, "basics n", "word x n/n " + deep)

    def test_nothing_is_kept_from_one_book_to_the_next(self):
        text = text_of(*HEAD, "word mary n mary")
        self.assertEqual(read_book(text), read_book(text))
        self.no(NoRow, 1, *HEAD[1:])


class BasicsRowTest(BookTest):
    def test_one_to_eight(self):
        for many in range(1, 9):
            self.assertEqual(read_book("basics " + " ".join(EIGHT[:many]))[0], tuple(EIGHT[:many]))
        self.no(NoRow, 1, "basics " + " ".join(EIGHT + ["i"]))
        self.no(NoRow, 1, "basics")
        self.no(NoRow, 1, "basics ")

    def test_what_is_none(self):
        for basic in ["", "abcdefghi", "N", "n1", "1", "n/n", "(n>n)", "any", "\u00e9", "#0"]:
            self.no(NoRow, 1, "basics " + basic)
            self.no(NoRow, 1, "basics n " + basic)
            self.no(NoRow, 1, "basics " + basic + " n")
        self.assertEqual(read_book("basics abcdefgh anyx an")[0], ("abcdefgh", "anyx", "an"))

    def test_twice(self):
        self.no(Twice, 1, "basics n n")
        self.no(Twice, 1, "basics s n pp s")
        self.no(Twice, 1, "basics " + " ".join(EIGHT[:7] + ["a"]))

    def test_no_row_ahead_of_twice(self):
        self.no(NoRow, 1, "basics n n any")
        self.no(NoRow, 1, "basics n n N")
        self.no(NoRow, 1, "basics n n ")
        self.no(NoRow, 1, "basics " + " ".join(EIGHT + ["a"]))

    def test_only_the_first_one_and_always(self):
        self.no(NoRow, 1, "name x n")
        self.no(NoRow, 1, "name x n", "basics n")
        self.no(NoRow, 1, "word x n/n [n]#0", "basics n")
        self.no(NoRow, 2, "basics n", "basics n")
        self.no(NoRow, 2, "basics n", "basics s")
        self.no(NoRow, 4, *HEAD, "basics pp")
        self.no(NoRow, 5, *HEAD, "word mary n mary", "basics pp")


class NameRowTest(BookTest):
    def test_kinds(self):
        for kind in ["n", "s", "(n>s)", "((n>s)>(n>s))", "(n>" * 11 + "s" + ")" * 11]:
            self.assertEqual(read_book(text_of("basics s n", "name x " + kind))[1], (("x", read_kind(kind)),))

    def test_names_of_one_to_eight_letters_any_too(self):
        for name in ["x", "abcdefgh", "any", "name", "n"]:
            self.assertEqual(read_book(text_of("basics n", f"name {name} n"))[1], ((name, "n"),))
        for name in ["", "abcdefghi", "X", "x1", "#0", "x(y)", "[n]x"]:
            self.no(NoRow, 2, "basics n", f"name {name} n")

    def test_not_written_so(self):
        for row in ["name", "name ", "name x", "name x ", "name x n n", "name x n x n", "name n"]:
            self.no(NoRow, 2, "basics n", row)

    def test_kinds_that_are_none(self):
        for kind in ["N", "n>n", "(n>n", "(n)", "n/n", "[n]", "abcdefghi", "(n>" * 12 + "n" + ")" * 12, "#0", "()"]:
            self.no(NoRow, 2, "basics n", "name x " + kind)

    def test_twenty_and_twenty_one(self):
        rows = [f"name {name_of(k)} n" for k in range(21)]
        book = read_book(text_of("basics n", *rows[:20]))
        self.assertEqual(book[1], tuple((name_of(k), "n") for k in range(20)))
        self.no(NoRow, 22, "basics n", *rows)
        self.no(NoRow, 22, "basics n", *rows[:20], "name aa n")
        self.no(NoRow, 22, "basics n", *rows[:20], "name aa pp")

    def test_behind_a_row_word(self):
        self.no(NoRow, 5, *HEAD, "word mary n mary", "name john n")
        self.no(NoRow, 3, "basics n", "word x n/n [n]#0", "name x n")
        self.no(NoRow, 5, *HEAD, "word mary n mary", "name mary pp")

    def test_another_basic(self):
        for kind in ["pp", "(n>pp)", "(pp>n)", "((n>n)>(n>pp))", "any", "(any>n)", "(n>(n>any))"]:
            self.no(NoBasic, 2, "basics s n", "name x " + kind)

    def test_twice(self):
        self.no(Twice, 3, "basics s n", "name x n", "name x n")
        self.no(Twice, 4, "basics s n", "name x n", "name y n", "name x s")
        self.no(Twice, 4, *HEAD, "name mary (n>s)")

    def test_a_row_that_is_wrong_in_more_ways(self):
        self.no(NoBasic, 3, "basics s n", "name x n", "name x pp")
        self.no(NoRow, 3, "basics s n", "name x n", "name x (n>pp")
        self.no(NoRow, 3, "basics s n", "name x n", "name x n n")


class WordRowTest(BookTest):
    def test_words_of_one_to_eight_letters(self):
        for word in ["x", "abcdefgh", "any", "word", "mary"]:
            self.assertEqual(self.words(*HEAD, f"word {word} n mary"), (triple(word, "n", "mary"),))
        for word in ["", "abcdefghi", "X", "x1", "x-y", "[n]"]:
            self.no(NoRow, 4, *HEAD, f"word {word} n mary")

    def test_not_written_so(self):
        for row in ["word", "word ", "word x", "word x n", "word x n ", "word x n mary mary", "word n mary",
                    "word x n see (mary)"]:
            self.no(NoRow, 4, *HEAD, row)

    def test_forms_that_are_none(self):
        for form in ["N", "(n)", "n/(n)", "n/", "n//n", "abcdefghi", "(n>n)", "n/(n/n", "[n]"]:
            self.no(NoRow, 4, *HEAD, f"word x {form} mary")

    def test_terms_that_are_none(self):
        for term in ["Mary", "(mary)", "#0", "[n]#1", "[n]#00", "mary()", "([n]#0)", "abcdefghi", "[n]" * 13 + "#0",
                     "see" + "(mary)" * 13, "[" + "(n>" * 12 + "n" + ")" * 12 + "]#0"]:
            self.no(NoRow, 4, *HEAD, f"word x n {term}")

    def test_terms_of_thirty_parts_and_thirty_one(self):
        names = ["basics n", "name m n", "name f (n>n)", "name g (n>(n>n))"]
        thirteen = "g(g(m)(m))(g(m)(m))"
        most = f"g({thirteen})({thirteen})"
        self.assertEqual(size_of(read_term(most)), 29)
        self.assertEqual(self.words(*names, f"word x n/n [n]{most}"), (triple("x", "n/n", f"[n]{most}"),))
        self.no(NoRow, 5, *names, f"word x n f({most})")
        self.no(NoRow, 5, *names, f"word x n/n/n [n][n]{most}")

    def test_terms_twelve_deep_and_thirteen(self):
        names = ["basics n", "name m n", "name f (n>n)"]
        deep = "f(" * 12 + "m" + ")" * 12
        self.assertEqual(self.words(*names, f"word x n {deep}"), (triple("x", "n", deep),))
        self.no(NoRow, 4, *names, f"word x n f({deep})")

    def test_six_basic_ones_and_seven(self):
        six = "n/n/n/n/n/n"
        kind = "(n>(n>(n>(n>(n>n)))))"
        self.assertEqual(self.words("basics n", f"name x {kind}", f"word x {six} x"), (triple("x", six, "x"),))
        self.no(NoRow, 3, "basics n", f"name x (n>{kind})", f"word x {six}/n x")
        self.no(NoRow, 3, "basics n", f"name x ((n>n)>{kind})", "word x n/n/n/n/n/(n/n) x")
        self.no(NoRow, 2, "basics n", "word x " + "/".join(["n"] * 13) + " [n]#0")

    def test_forty_triples_and_forty_one(self):
        rows = [f"word {name_of(k)} n mary" for k in range(42)]
        book = read_book(text_of(*HEAD, *rows[:40]))
        self.assertEqual(book[2], tuple(triple(name_of(k), "n", "mary") for k in range(40)))
        self.no(NoRow, 44, *HEAD, *rows[:41])
        self.no(NoRow, 44, *HEAD, *rows[:40], "word aa n mary")
        self.no(NoRow, 44, *HEAD, *rows[:40], "word x pp mary")
        self.no(NoRow, 44, *HEAD, *rows[:40], "word x n see")

    def test_forty_triples_and_forty_one_where_any_makes_them(self):
        rows = [f"word {name_of(k)} any/any [any]#0" for k in range(20)]
        self.assertEqual(len(self.words(*HEAD, *rows)), 40)
        self.no(NoRow, 24, *HEAD, *rows, "word x n mary")
        self.assertEqual(len(self.words(*HEAD, "word x n mary", *rows[:19])), 39)
        self.no(NoRow, 24, *HEAD, "word x n mary", *rows)
        self.assertEqual(len(self.words(*HEAD, *rows[:19], "word x n mary", "word y n mary")), 40)

    def test_eight_triples_of_a_word_and_nine(self):
        forms = [slashes(number, 4) for number in range(9)]
        names = ["basics s n", "name f (n>(n>(n>(n>s))))"]
        rows = [f"word x {form} f" for form in forms]
        self.assertEqual(self.words(*names, *rows[:8]), tuple(triple("x", form, "f") for form in forms[:8]))
        self.no(NoRow, 11, *names, *rows)
        self.no(NoRow, 11, *names, *rows[:8], rows[0])
        self.no(NoRow, 11, *names, *rows[:8], "word x pp f")
        self.no(NoRow, 11, *names, *rows[:8], "word x n f")
        self.assertEqual(len(self.words(*names, *rows[:8], "word y s/n/n/n/n f")), 9)

    def test_eight_triples_of_a_word_and_nine_where_any_makes_them(self):
        basics = "basics " + " ".join(EIGHT)
        self.assertEqual(len(self.words(basics, "word x any/any [any]#0")), 8)
        self.no(NoRow, 3, basics, "word x any/any [any]#0", "word x any\\any [any]#0")
        self.no(NoRow, 3, basics, "word x any/any [any]#0", "word x a\\a [a]#0")
        self.no(NoRow, 3, basics, "word x a\\a [a]#0", "word x any/any [any]#0")
        self.no(NoRow, 3, basics, "word x a\\a [a]#0", "word x a/a [any]#0")
        self.assertEqual(len(self.words(basics, "word y a\\a [a]#0", "word x any/any [any]#0")), 9)
        four = "basics a b c d"
        self.assertEqual(len(self.words(four, "word x any/any [any]#0", "word x any\\any [any]#0")), 8)
        self.no(NoRow, 4, four, "word x any/any [any]#0", "word x any\\any [any]#0", "word x a a")

    def test_another_basic(self):
        for form, term in [("pp", "mary"), ("n/pp", "mary"), ("pp\\n", "[n]#0"), ("n/n", "[pp]#0"),
                           ("n", "see([pp]#0)"), ("n/n", "[n]([pp]#0)(#0)"), ("n/n", "[(n>pp)]#0"),
                           ("any/pp", "[any]#0"), ("any/any", "[any]([pp]#0)(#0)"), ("mary", "mary")]:
            self.no(NoBasic, 4, *HEAD, f"word x {form} {term}")

    def test_names_in_a_term_are_no_basics(self):
        self.no(Misfit, 4, *HEAD, "word x n pp")
        self.no(Misfit, 4, *HEAD, "word x n any")

    def test_twice(self):
        self.no(Twice, 5, *HEAD, "word x n mary", "word x n mary")
        self.no(Twice, 6, *HEAD, "word x n/n [n]#0", "word y n mary", "word x n/n [n]mary")
        words = self.words(*HEAD, "word x n mary", "word y n mary", "word x n/n [n]#0", "word x n\\n [n]#0")
        self.assertEqual(len(words), 4)

    def test_misfit_by_the_kind(self):
        for form, term in [("s", "mary"), ("n/n", "mary"), ("n", "see"), ("s\\n", "see"), ("n/s", "[n]#0"),
                           ("s\\n/n", "see(mary)"), ("s", "see(mary)"), ("n", "mary(mary)"), ("n", "john"),
                           ("s/n", "see(john)"), ("n", "([s]#0)(mary)"), ("n/n/n", "[n][s]#0")]:
            self.no(Misfit, 4, *HEAD, f"word x {form} {term}")
        self.assertEqual(len(self.words(*HEAD, "word x s\\n/n [n]see(#0)")), 1)

    def test_misfit_where_the_term_is_not_sparing(self):
        for form, term in [("s\\n", "[n]see(#0)(#0)"), ("s/n", "[n]see(#0)(#0)"), ("s\\n", "([n][n]see(#0)(#0))(mary)"),
                           ("s\\n/n", "[n][n]see(#1)(#1)")]:
            self.no(Misfit, 4, *HEAD, f"word x {form} {term}")
        self.assertEqual(len(self.words(*HEAD, "word x s\\n/n [n][n]see(mary)(mary)")), 1)

    def test_either_slash_has_the_same_kind(self):
        for form in ["s\\n/n", "s/n/n", "s/n\\n", "s\\n\\n"]:
            self.assertEqual(self.words(*HEAD, f"word x {form} see"), (triple("x", form, "see"),))

    def test_a_row_that_is_wrong_in_more_ways(self):
        came = [*HEAD, "word x n mary"]
        self.no(NoRow, 5, *came, "word x n see(")
        self.no(NoRow, 5, *came, "word x n/pp #0")
        self.no(NoRow, 5, *came, "word X pp mary")
        self.no(NoRow, 5, *came, "word x n/n/n/n/n/n/pp mary")
        self.no(NoBasic, 5, *came, "word x pp see")
        self.no(NoBasic, 5, *came, "word x n ([pp]#0)(mary)")
        self.no(NoBasic, 5, *came, "word x any ([pp]#0)([any]#0)")
        self.no(Twice, 5, *came, "word x n see")
        self.no(Twice, 5, *came, "word x n [n]see(#0)(#0)")
        self.no(Twice, 5, *came, "word x n john")

    def test_a_text_with_two_wrong_rows(self):
        self.no(Misfit, 4, *HEAD, "word x s mary", "wrong")
        self.no(Twice, 3, "basics n", "name x n", "name x n", "name y pp")
        self.no(NoBasic, 2, "basics n", "name x pp", "name x n", "basics")
        self.no(Twice, 1, "basics n n", "wrong")
        self.no(NoBasic, 4, *HEAD, "word x pp mary", "word x n see", "")
        self.no(NoRow, 4, *HEAD, "wrong", "word x pp mary")
        self.no(Misfit, 4, *HEAD, "word x s mary", "name x n", "word x s mary")


class AnyTest(BookTest):
    def test_as_many_triples_as_basics_one_after_the_other(self):
        self.assertEqual(self.words("basics s n pp", "word and any\\any/any [any][any]#0"), (
            triple("and", "s\\s/s", "[s][s]#0"), triple("and", "n\\n/n", "[n][n]#0"),
            triple("and", "pp\\pp/pp", "[pp][pp]#0"),
        ))

    def test_between_other_rows(self):
        self.assertEqual(self.words(*HEAD, "word a n mary", "word b any/any [any]#0", "word c n mary"), (
            triple("a", "n", "mary"), triple("b", "s/s", "[s]#0"), triple("b", "n/n", "[n]#0"),
            triple("c", "n", "mary"),
        ))

    def test_beside_other_basics_and_within_pairs(self):
        words = self.words(*HEAD, "word x any/(any\\n)/n [n][(n>any)]#0(#1)")
        self.assertEqual(words, (triple("x", "s/(s\\n)/n", "[n][(n>s)]#0(#1)"),
                                 triple("x", "n/(n\\n)/n", "[n][(n>n)]#0(#1)")))

    def test_deep_within_the_term(self):
        words = self.words(*HEAD, "word x n/(n/any)/any [any][(any>n)]([(any>n)]#0)(#0)(([any]#0)(#1))")
        for basic, told in zip(["s", "n"], words):
            self.assertEqual(told, triple("x", f"n/(n/{basic})/{basic}",
                                          f"[{basic}][({basic}>n)]([({basic}>n)]#0)(#0)(([{basic}]#0)(#1))"))

    def test_a_term_s_name_and_the_word_stay(self):
        words = self.words("basics s n", "name any s", "word any s/any [any]any", "word x s any", "word any s any")
        self.assertEqual(words, (triple("any", "s/s", "[s]any"), triple("any", "s/n", "[n]any"),
                                 triple("x", "s", "any"), triple("any", "s", "any")))

    def test_in_the_form_alone(self):
        self.no(Misfit, 3, "basics s n", "name any n", "word x any any")
        self.assertEqual(self.words("basics n", "name any n", "word x any any"), (triple("x", "n", "any"),))
        self.no(Misfit, 4, *HEAD, "word x any mary")
        self.no(Misfit, 4, *HEAD, "word x any/n [n]#0")

    def test_misfit_for_a_later_triple_alone(self):
        self.no(Misfit, 3, "basics n s", "name x n", "word x any x")
        self.no(Misfit, 3, "basics s n", "name x n", "word x any x")
        self.no(Misfit, 3, "basics n s pp", "name f (n>n)", "word x n/any [any]f(#0)")

    def test_in_the_term_s_kinds_alone_with_one_basic(self):
        self.assertEqual(self.words("basics n", "word x n/n [any]#0"), (triple("x", "n/n", "[n]#0"),))
        self.no(Misfit, 2, "basics n", "word x n [any]#0")

    def test_in_the_term_s_kinds_alone_with_two(self):
        self.no(Twice, 2, "basics n s", "word x n/n [any]#0")
        self.no(Twice, 2, "basics n s", "word x n [any]#0")
        self.no(Twice, 3, "basics s n", "name m n", "word x n ([any]m)(m)")
        self.no(NoBasic, 2, "basics n s", "word x n/pp [any]#0")

    def test_a_form_that_came_ahead(self):
        self.no(Twice, 3, "basics s n", "word x n/n [n]#0", "word x any/any [any]#0")
        self.no(Twice, 3, "basics s n", "word x any/any [any]#0", "word x n/n [n]#0")
        self.no(Twice, 3, "basics s n", "word x any/any [any]#0", "word x any/any [any]#0")
        self.no(Twice, 4, *HEAD[:2], "word x n/n [n]#0", "word x any/n [n]mary")
        self.assertEqual(len(self.words("basics s n", "word y n/n [n]#0", "word x any/any [any]#0")), 3)

    def test_six_basic_ones_and_seven(self):
        six = "any/any/any/any/any/any"
        self.assertEqual(len(self.words("basics s n", f"word x {six} " + "[any]" * 5 + "#0")), 2)
        self.no(NoRow, 2, "basics s n", f"word x {six}/any " + "[any]" * 6 + "#0")

    def test_not_in_a_row_name_nor_in_the_row_basics(self):
        self.no(NoBasic, 2, "basics n", "name x any")
        self.no(NoBasic, 2, "basics n", "name any (any>n)")
        self.no(NoRow, 1, "basics any")
        self.no(NoRow, 1, "basics n any")

    def test_a_name_that_begins_like_it_is_another_one(self):
        self.no(NoBasic, 2, "basics n", "word x anyx/anyx [anyx]#0")
        self.assertEqual(self.words("basics n anyx", "word x anyx/anyx [anyx]#0"),
                         (triple("x", "anyx/anyx", "[anyx]#0"),))


class ShowBookTest(BookTest):
    def test_a_row_for_each(self):
        text = text_of("basics s n", "name mary n", "name see (n>(n>s))", "word mary n mary",
                       "word saw s\\n/n [n][n]see(#0)(#1)", "word x s/(s\\n) [(n>s)]#0(mary)")
        self.assertEqual(show_book(read_book(text)), text)

    def test_few_rows(self):
        for text in ["basics n", "basics n s", "basics n\nname x n", "basics n\nword x n/n [n]#0"]:
            self.assertEqual(show_book(read_book(text)), text)

    def test_any_is_shown_by_its_triples(self):
        book = read_book(text_of("basics s n", "name any s", "word any s/any [any]any", "word b any\\any [any]#0"))
        self.assertEqual(show_book(book), text_of(
            "basics s n", "name any s", "word any s/s [s]any", "word any s/n [n]any", "word b s\\s [s]#0",
            "word b n\\n [n]#0"))

    def test_read_again_it_is_the_same(self):
        rows = [f"name {name_of(k)} ({EIGHT[k % 8]}>{EIGHT[k % 7]})" for k in range(20)]
        words = [f"word {name_of(k)} any/any ([(any>any)]#0)([any]#0)" for k in range(5)]
        book = read_book(text_of("basics " + " ".join(EIGHT), *rows, *words))
        self.assertEqual([len(part) for part in book], [8, 20, 40])
        self.assertEqual(read_book(show_book(book)), book)
        self.assertEqual(len(show_book(book).split("\n")), 61)


if __name__ == "__main__":
    unittest.main()
