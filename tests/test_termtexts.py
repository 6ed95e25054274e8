import itertools
import unittest

from slashwise.errors import NoTerm
from slashwise.terms import depth_of, is_closed, size_of
from slashwise.termtexts import read_term, show_term
from tests.things import bound, fn, nested, no_texts, of

MARY = ("name", "mary")
LOVE = ("name", "love")
SAME = fn("n", bound(0))
M = ("name", "m")


def all_terms(size):
    """All terms of this size over one name, one kind and the two first bound ones, closed or not."""
    if size == 1:
        return [M, bound(0), bound(1)]
    terms = [fn("n", body) for body in all_terms(size - 1)]
    for left in range(1, size - 1):
        terms.extend(of(f, a) for f, a in itertools.product(all_terms(left), all_terms(size - 1 - left)))
    return terms


def written(term):
    """The text of a term over the kind n, told once more in the document's own words."""
    if term[0] == "name":
        return term[1]
    if term[0] == "bound":
        return "#" + str(term[1])
    if term[0] == "fn":
        return "[" + term[1] + "]" + written(term[2])
    f = written(term[1])
    return ("(" + f + ")" if term[1][0] == "fn" else f) + "(" + written(term[2]) + ")"


def of_chain(parts):
    """m(m)(m) ... with so many parts, an odd number."""
    return nested((parts - 1) // 2, M, lambda term: of(term, M))


def balanced(parts):
    """A term of so many parts that is as flat as can be, over m and a fn."""
    if parts == 1:
        return M
    if parts == 2:
        return fn("n", M)
    left = (parts - 1) // 2
    return of(balanced(left), balanced(parts - 1 - left))


class ReadTermTest(unittest.TestCase):
    def no(self, text):
        with self.assertRaises(NoTerm) as caught:
            read_term(text)
        self.assertIs(type(caught.exception), NoTerm)

    def test_the_document_s_own(self):
        self.assertEqual(read_term("[n][n]love(#0)(#1)"), fn("n", fn("n", of(LOVE, bound(0), bound(1)))))
        self.assertEqual(read_term("([n]#0)(mary)"), of(SAME, MARY))

    def test_ordinary_texts(self):
        self.assertEqual(read_term("mary"), MARY)
        self.assertEqual(read_term("any"), ("name", "any"))
        self.assertEqual(read_term("love(mary)"), of(LOVE, MARY))
        self.assertEqual(read_term("love(mary)(mary)"), of(LOVE, MARY, MARY))
        self.assertEqual(read_term("love(love(mary))"), of(LOVE, of(LOVE, MARY)))
        self.assertEqual(read_term("[(n>s)]#0(mary)"), fn("(n>s)", of(bound(0), MARY)))
        self.assertEqual(read_term("some([n]love(#0)(mary))"), of(("name", "some"), fn("n", of(LOVE, bound(0), MARY))))
        self.assertEqual(read_term("[n]([s]#0)(#0)"), fn("n", of(fn("s", bound(0)), bound(0))))
        self.assertEqual(read_term("([n]#0)(mary)(mary)"), of(SAME, MARY, MARY))
        self.assertEqual(read_term("([n]#0)([n]#0)"), of(SAME, SAME))
        self.assertEqual(read_term("([n]([n]#0)(#0))(([n]#0)(mary))"),
                         of(fn("n", of(SAME, bound(0))), of(SAME, MARY)))

    def test_a_body_goes_as_far_as_it_can(self):
        self.assertEqual(read_term("[n]#0(mary)"), fn("n", of(bound(0), MARY)))
        self.assertEqual(read_term("[n][n]#0(mary)(#1)"), fn("n", fn("n", of(bound(0), MARY, bound(1)))))

    def test_names_of_one_to_eight_small_letters(self):
        self.assertEqual(read_term("abcdefgh"), ("name", "abcdefgh"))
        self.assertEqual(read_term("a(z)"), of(("name", "a"), ("name", "z")))
        for text in ["", "abcdefghi", "a(abcdefghi)", "abcdefghi(a)", "abcdefghi#0", "abcdefghimary", "Mary",
                     "mary1", "1", "0", "a b", "ma-ry"]:
            self.no(text)

    def test_bound_ones(self):
        for fns in [1, 2, 10, 11, 12]:
            for k in range(fns):
                text = "[n]" * fns + "#" + str(k)
                self.assertEqual(read_term(text), nested(fns, bound(k), lambda term: fn("n", term)))

    def test_figures_with_a_nought_ahead(self):
        for text in ["[n]#00", "[n][n]#01", "[n][n]#00", "[n]#000", "[n]" * 12 + "#010", "[n]" * 12 + "#011"]:
            self.no(text)
        self.assertEqual(read_term("[n]" * 12 + "#10"), nested(12, bound(10), lambda term: fn("n", term)))

    def test_a_bound_one_without_figures_or_with_other_signs(self):
        for text in ["#", "[n]#", "[n]#a", "[n]#-0", "[n]#+0", "[n]# 0", "[n]#0 ", "[n]##0", "[n]#(0)", "[n]0",
                     "[n]#0#0", "[n]#0a", "[n]a#0", "[n]#0.0", "[n]#0_0", "[n]#0x0", "[n]#\u0660", "[n]#\u00b2",
                     "[n]#1\u0660"]:
            self.no(text)

    def test_a_bound_one_that_belongs_to_no_fn(self):
        for text in ["#0", "#1", "[n]#1", "[n]#2", "[n][n]#2", "mary(#0)", "#0(mary)", "([n]#0)(#0)", "([n]#1)(mary)",
                     "[n]([n]#1)(#1)", "#0([n]#0)", "[n]" * 12 + "#12", "[n]" * 12 + "#100", "[n]#" + "9" * 60,
                     "[n]#" + "1" * 1900]:
            self.no(text)
        self.assertEqual(read_term("[n]([n]#1)(#0)"), fn("n", of(fn("n", bound(1)), bound(0))))

    def test_thirty_parts_and_thirty_one(self):
        for parts in [28, 29, 30, 31, 32, 33]:
            term = balanced(parts)
            self.assertEqual(size_of(term), parts)
            self.assertLessEqual(depth_of(term), 12)
            if parts <= 30:
                self.assertEqual(read_term(written(term)), term)
            else:
                self.no(written(term))

    def test_twelve_deep_and_thirteen(self):
        for wrap in [lambda term: of(term, M), lambda term: of(M, term), lambda term: fn("n", term)]:
            for inner in [M, fn("n", bound(0)), of(M, M)]:
                twelve = nested(12 - depth_of(inner), inner, wrap)
                self.assertEqual(depth_of(twelve), 12)
                self.assertEqual(read_term(written(twelve)), twelve)
                self.no(written(wrap(twelve)))
        self.no(written(of_chain(29)))
        self.no("[n]" * 13 + "#0")
        self.no("[n]" * 29 + "#0")

    def test_a_fn_of_a_kind_of_twelve_texts_and_of_thirteen(self):
        for texts in [1, 2, 11, 12, 13, 14, 100]:
            for kind in ["(n>" * (texts - 1) + "s" + ")" * (texts - 1), "(" * (texts - 1) + "s" + ">n)" * (texts - 1)]:
                if texts <= 12:
                    self.assertEqual(read_term(f"[{kind}]#0"), fn(kind, bound(0)))
                else:
                    self.no(f"[{kind}]#0")
                    self.no(f"love([{kind}]#0)")

    def test_kinds_that_are_none(self):
        for text in ["[]#0", "[(n>s]#0", "[n>s]#0", "[(n)]#0", "[n s]#0", "[N]#0", "[abcdefghi]#0", "[[n]]#0", "[n]]#0",
                     "[n[n]#0", "[n", "[", "]", "[n#0", "n]#0", "[#0]#0", "[(n>s))]#0", "[ n]#0", "[n ]#0", "[s/n]#0",
                     "[()]#0", "[(n>)]#0", "[n]", "[n][n]", "love([n])"]:
            self.no(text)

    def test_brackets_where_f_is_no_fn(self):
        for text in ["(love)(mary)", "(mary)", "(love(mary))", "(love(mary))(mary)", "(([n]#0)(mary))(mary)",
                     "[n](#0)(mary)", "[n](#0)", "[n](love(#0))(mary)", "love((mary))", "love((love(mary)))",
                     "(([n]#0))(mary)", "([n](#0))(mary)", "((love))(mary)", "(love)", "(#0)"]:
            self.no(text)

    def test_brackets_of_a_fn_that_is_no_f(self):
        for text in ["([n]#0)", "love(([n]#0))", "[n]([n]#0)", "([n]([n]#0))(mary)", "([n]#0)(([n]#0))", "(([n]#0))"]:
            self.no(text)

    def test_no_brackets_where_f_is_a_fn(self):
        self.assertNotEqual(read_term("[n]#0(mary)"), of(SAME, MARY))
        for text in ["[n]#0)(mary)", "([n]#0(mary)", "([n]#0)mary", "([n]#0)[n]#0", "([n]#0)#0"]:
            self.no(text)

    def test_brackets_that_do_not_go_together(self):
        for text in ["(", ")", "()", ")(", "love(", "love()", "love)", "love(mary", "love(mary))", "love(mary)(",
                     "(love", "love(mary)()", "love(mary)mary", "love mary", "love(mary mary)", "love(mary,mary)",
                     "love(mary)[n]#0", "mary[n]", "mary[n]#0", "[n]#0[n]", "love()(mary)", "()(mary)", "([n])(mary)",
                     "([n]#0)()", "love[mary]", "love{mary}"]:
            self.no(text)

    def test_other_signs(self):
        for text in [" ", " mary", "mary ", "mary\n", "\nmary", "mary\t", "love (mary)", "love( mary)", "[n] #0",
                     "[n]\n#0", "mar\u00fd", "\u017f", "love\uff08mary\uff09", "love(mary).", "~", "%", "\\",
                     "[n]x/#0"]:
            self.no(text)

    def test_things_that_are_no_texts(self):
        for thing in no_texts() + [MARY, SAME, ("bound", 0), ("of", LOVE, MARY), ["mary"], b"mary"]:
            self.no(thing)

    def test_three_hundred_brackets_and_more(self):
        for many in [13, 300, 990]:
            for text in ["(" * many, ")" * many, "[" * many, "]" * many, "a(" * many, "a)" * many, "([n]" * many,
                         "(" * many + "a" + ")" * many, "a(" * many + "a" + ")" * many, "a" + "(a)" * many,
                         "a" + "(" * many + "a" + ")" * many, "([n]" * many + "#0" + ")(a)" * many,
                         "[" + "(" * many + "n" + ")" * many + "]#0", "[" + "(n>" * many + "n" + ")" * many + "]#0",
                         "[" * many + "n" + "]" * many + "#0", "[n]" * many + "#0", "a" + "()" * many, "[n]" * many,
                         "(" * many + "[n]#0" + ")" * many + "(a)"]:
                self.no(text)

    def test_all_terms_of_few_parts(self):
        readable = {}
        for size in range(1, 7):
            for term in all_terms(size):
                text = written(term)
                self.assertNotIn(text, readable)
                readable[text] = term
                if is_closed(term):
                    self.assertEqual(read_term(text), term)
                else:
                    self.no(text)

    def test_all_short_texts(self):
        readable = {}
        for size in range(1, 8):
            for term in all_terms(size):
                if is_closed(term):
                    readable[written(term)] = term
        found = 0
        for many in range(1, 8):
            for pieces in itertools.product(["m", "#0", "[n]", "(", ")"], repeat=many):
                text = "".join(pieces)
                if "mm" in text:
                    continue
                if text in readable:
                    found += 1
                    self.assertEqual(read_term(text), readable[text])
                else:
                    self.no(text)
        self.assertGreater(found, 40)


class ShowTermTest(unittest.TestCase):
    def test_the_document_s_own(self):
        self.assertEqual(show_term(fn("n", fn("n", of(LOVE, bound(0), bound(1))))), "[n][n]love(#0)(#1)")
        self.assertEqual(show_term(of(SAME, MARY)), "([n]#0)(mary)")

    def test_brackets_of_its_own_for_an_f_that_is_a_fn_alone(self):
        self.assertEqual(show_term(of(LOVE, SAME)), "love([n]#0)")
        self.assertEqual(show_term(of(of(LOVE, MARY), MARY)), "love(mary)(mary)")
        self.assertEqual(show_term(of(of(SAME, MARY), MARY)), "([n]#0)(mary)(mary)")
        self.assertEqual(show_term(of(SAME, SAME)), "([n]#0)([n]#0)")
        self.assertEqual(show_term(fn("n", of(bound(0), MARY))), "[n]#0(mary)")
        self.assertEqual(show_term(fn("n", of(SAME, bound(0)))), "[n]([n]#0)(#0)")

    def test_kinds_and_numbers(self):
        self.assertEqual(show_term(fn("((n>s)>s)", bound(0))), "[((n>s)>s)]#0")
        self.assertEqual(show_term(nested(12, bound(10), lambda term: fn("n", term))), "[n]" * 12 + "#10")

    def test_there_and_back(self):
        for size in range(1, 7):
            for term in all_terms(size):
                self.assertEqual(show_term(term), written(term))
                if is_closed(term):
                    self.assertEqual(read_term(show_term(term)), term)

    def test_large_and_deep_terms(self):
        deep = nested(150, bound(149), lambda term: fn("n", term))
        self.assertEqual(show_term(deep), "[n]" * 150 + "#149")
        self.assertEqual(show_term(nested(150, M, lambda term: of(M, term))), "m(" * 150 + "m" + ")" * 150)
        self.assertEqual(show_term(of_chain(399)), "m" + "(m)" * 199)
        ready = nested(133, M, lambda term: of(SAME, term))
        self.assertEqual(show_term(ready), "([n]#0)(" * 133 + "m" + ")" * 133)
        nests = nested(75, M, lambda term: of(fn("n", term), M))
        self.assertEqual(show_term(nests), "([n]" * 75 + "m" + ")(m)" * 75)


if __name__ == "__main__":
    unittest.main()
