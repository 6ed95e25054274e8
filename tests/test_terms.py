import copy
import unittest

from slashwise.errors import NoKind
from slashwise.kinds import read_kind, show_kind
from slashwise.terms import depth_of, is_closed, is_sparing, kind_of, size_of
from tests.things import bound, fn, leaf, nested, of

MARY = ("name", "mary")
LOVE = ("name", "love")
NAMES = [("mary", "n"), ("love", ("n", ("n", "s"))), ("some", (("n", "s"), "s")), ("in", "ns")]


SWAP = fn("n", fn("n", of(LOVE, bound(0), bound(1))))
BOTH = fn("n", of(LOVE, bound(0), bound(0)))


class SizeOfTest(unittest.TestCase):
    def test_one_part(self):
        for term in [MARY, bound(0), bound(10 ** 50), leaf(0, "s\\n/(n/n)")]:
            self.assertEqual(size_of(term), 1)

    def test_kinds_and_forms_are_no_parts(self):
        self.assertEqual(size_of(fn("((n>s)>(n>s))", bound(0))), 2)
        self.assertEqual(size_of(of(leaf(0, "s/n"), leaf(1, "n"))), 3)

    def test_each_part_counts_as_often_as_it_stands_there(self):
        self.assertEqual(size_of(of(MARY, MARY)), 3)
        self.assertEqual(size_of(SWAP), 7)
        self.assertEqual(size_of(of(SWAP, MARY, fn("n", bound(0)))), 12)

    def test_large_and_deep_terms(self):
        self.assertEqual(size_of(nested(150, MARY, lambda term: fn("n", term))), 151)
        self.assertEqual(size_of(nested(199, MARY, lambda term: of(term, MARY))), 399)
        self.assertEqual(size_of(nested(199, MARY, lambda term: of(MARY, term))), 399)


class DepthOfTest(unittest.TestCase):
    def test_nothing_in_it(self):
        for term in [MARY, bound(3), leaf(0, "s\\n/(n/n)")]:
            self.assertEqual(depth_of(term), 0)

    def test_one_deeper_than_the_deeper_one(self):
        self.assertEqual(depth_of(fn("(n>s)", bound(0))), 1)
        self.assertEqual(depth_of(of(MARY, MARY)), 1)
        self.assertEqual(depth_of(of(MARY, MARY, MARY)), 2)
        self.assertEqual(depth_of(of(MARY, of(MARY, MARY))), 2)
        self.assertEqual(depth_of(SWAP), 4)
        self.assertEqual(depth_of(of(MARY, SWAP)), 5)
        self.assertEqual(depth_of(of(SWAP, MARY)), 5)

    def test_deep_terms(self):
        self.assertEqual(depth_of(nested(300, MARY, lambda term: fn("n", term))), 300)
        self.assertEqual(depth_of(nested(199, MARY, lambda term: of(term, MARY))), 199)
        self.assertEqual(depth_of(nested(199, MARY, lambda term: of(MARY, term))), 199)


class IsClosedTest(unittest.TestCase):
    def yes(self, term):
        self.assertIs(is_closed(term), True)

    def no(self, term):
        self.assertIs(is_closed(term), False)

    def test_without_bound_ones(self):
        for term in [MARY, leaf(0, "s"), of(LOVE, MARY), fn("n", MARY)]:
            self.yes(term)

    def test_bound_ones_within_their_fns(self):
        for term in [fn("n", bound(0)), SWAP, BOTH, fn("n", fn("n", bound(1))), of(fn("n", bound(0)), MARY)]:
            self.yes(term)

    def test_bound_ones_that_belong_to_no_fn(self):
        for term in [bound(0), bound(10 ** 50), fn("n", bound(1)), fn("n", fn("n", bound(2))), of(MARY, bound(0)),
                     of(fn("n", bound(0)), bound(0)), of(bound(0), fn("n", bound(0))),
                     fn("n", of(fn("n", bound(1)), bound(1))), of(of(SWAP, bound(0)), MARY)]:
            self.no(term)

    def test_fns_beside_a_bound_one_are_not_around_it(self):
        self.no(fn("n", of(fn("n", fn("n", bound(0))), bound(1))))
        self.yes(fn("n", of(fn("n", fn("n", bound(2))), bound(0))))

    def test_deep_terms(self):
        for depth in [150, 300]:
            self.yes(nested(depth, bound(depth - 1), lambda term: fn("n", term)))
            self.no(nested(depth, bound(depth), lambda term: fn("n", term)))
            self.no(nested(depth, bound(0), lambda term: of(MARY, term)))


class IsSparingTest(unittest.TestCase):
    def yes(self, term):
        self.assertIs(is_sparing(term), True)

    def no(self, term):
        self.assertIs(is_sparing(term), False)

    def test_at_most_one_bound_one(self):
        for term in [MARY, leaf(3, "n"), fn("n", MARY), fn("n", bound(0)), SWAP, fn("n", fn("n", bound(1))),
                     of(fn("n", bound(0)), fn("n", bound(0))), fn("n", of(fn("n", bound(0)), bound(0))),
                     fn("n", of(bound(0), fn("n", bound(0))))]:
            self.yes(term)

    def test_two_bound_ones(self):
        for term in [BOTH, fn("n", of(bound(0), bound(0))), fn("n", of(bound(0), fn("n", bound(1)))),
                     fn("n", fn("n", of(bound(1), bound(1)))), of(MARY, BOTH), of(BOTH, MARY),
                     fn("n", fn("n", fn("n", of(bound(0), bound(2), bound(1), bound(2)))))]:
            self.no(term)

    def test_bound_ones_that_belong_to_no_fn_are_no_fn_s(self):
        self.yes(of(bound(0), bound(0)))
        self.yes(fn("n", of(bound(1), bound(0), bound(1))))
        self.no(fn("n", of(bound(1), bound(0), bound(0))))

    def test_deep_terms(self):
        inner = of(LOVE, bound(149), bound(0))
        self.yes(nested(150, inner, lambda term: fn("n", term)))
        inner = of(LOVE, bound(149), bound(149))
        self.no(nested(150, inner, lambda term: fn("n", term)))
        self.yes(nested(150, MARY, lambda term: of(fn("n", bound(0)), term)))


class KindOfTest(unittest.TestCase):
    def told(self, kind, term, names=NAMES):
        self.assertEqual(kind_of(names, term), read_kind(kind))

    def no(self, term, names=NAMES):
        with self.assertRaises(NoKind) as caught:
            kind_of(names, term)
        self.assertIs(type(caught.exception), NoKind)

    def test_names(self):
        self.told("n", MARY)
        self.told("(n>(n>s))", LOVE)
        self.told("((n>s)>s)", ("name", "some"), tuple(NAMES))
        self.told("abc", ("name", "abcdefgh"), [("abcdefgh", "abc")])

    def test_a_name_without_a_pair(self):
        self.no(MARY, [])
        self.no(MARY, ())
        self.no(("name", "mar"))
        self.no(of(LOVE, ("name", "john")))
        self.no(of(("name", "hate"), MARY))
        self.no(fn("n", ("name", "john")))
        self.no(("name", "n"))

    def test_leaves(self):
        self.told("s", leaf(0, "s"), [])
        self.told("(n>(n>s))", leaf(7, "s\\n/n"), [])
        self.told("((n>s)>s)", leaf(0, "s/(s\\n)"), ())
        self.told("s", of(leaf(0, "s/(s\\n)"), leaf(1, "s\\n")), [])

    def test_fns_and_bound_ones(self):
        self.told("(n>n)", fn("n", bound(0)))
        self.told("((n>s)>(n>s))", fn("(n>s)", bound(0)))
        self.told("(a>(b>a))", fn("a", fn("b", bound(1))))
        self.told("(a>(b>b))", fn("a", fn("b", bound(0))))
        self.told("(n>(n>s))", SWAP)
        self.told("(n>s)", BOTH)
        self.told("(a>(b>(c>b)))", fn("a", fn("b", fn("c", bound(1)))))

    def test_the_fn_of_a_bound_one_in_a_as_in_f(self):
        names = [("f", read_kind("((b>a)>(a>c))"))]
        self.told("(a>c)", fn("a", of(("name", "f"), fn("b", bound(1)), bound(0))), names)
        self.no(fn("a", of(("name", "f"), fn("b", bound(0)), bound(0))), names)
        self.no(fn("a", of(("name", "f"), bound(0), fn("b", bound(1)))), names)

    def test_ofs(self):
        self.told("(n>s)", of(LOVE, MARY))
        self.told("s", of(LOVE, MARY, MARY))
        self.told("s", of(("name", "some"), of(LOVE, MARY)))
        self.told("n", of(fn("n", bound(0)), MARY))

    def test_ofs_without_a_kind(self):
        self.no(of(MARY, MARY))
        self.no(of(LOVE, LOVE))
        self.no(of(LOVE, MARY, MARY, MARY))
        self.no(of(MARY, LOVE))
        self.no(of(("name", "some"), MARY))
        self.no(of(fn("s", bound(0)), MARY))
        self.no(of(fn("(n>s)", bound(0)), LOVE))
        self.no(fn("n", of(bound(0), bound(0))))
        self.no(of(leaf(0, "s/n"), leaf(1, "s")))

    def test_a_wrong_part_anywhere_is_refused(self):
        wrong = of(MARY, MARY)
        self.no(fn("n", wrong))
        self.no(of(wrong, MARY))
        self.no(of(LOVE, wrong))
        self.no(of(fn("n", MARY), wrong))

    def test_a_text_of_two_letters_is_no_pair(self):
        self.no(of(("name", "in"), ("name", "n")), NAMES + [("n", "n")])

    def test_a_bound_one_that_belongs_to_no_fn_has_no_kind(self):
        self.no(bound(0))
        self.no(fn("n", bound(1)))

    def test_as_many_texts_as_it_needs(self):
        for depth in [20, 150]:
            term = nested(depth, MARY, lambda body: fn("(a>b)", body))
            kind = kind_of(NAMES, term)
            self.assertEqual(show_kind(kind), "((a>b)>" * depth + "n" + ")" * depth)
            outer = of(("name", "f"), term)
            self.assertEqual(kind_of(NAMES + [("f", (kind, "s"))], outer), "s")
            self.no(of(("name", "f"), fn("n", term)), NAMES + [("f", (kind, "s"))])

    def test_large_terms(self):
        same = ("name", "same")
        names = NAMES + [("same", ("n", "n"))]
        self.told("n", nested(199, MARY, lambda term: of(same, term)), names)
        many = nested(150, "s", lambda kind: ("n", kind))
        self.assertEqual(kind_of([("f", many), ("mary", "n")], of(("name", "f"), *[MARY] * 150)), "s")
        self.no(of(("name", "f"), *[MARY] * 151), [("f", many), ("mary", "n")])

    def test_what_is_handed_in_is_not_changed(self):
        names = list(NAMES)
        before = copy.deepcopy(names)
        kind_of(names, of(SWAP, MARY))
        self.no(of(SWAP, SWAP), names)
        self.assertEqual(names, before)
        names.append(("john", "n"))
        self.told("n", ("name", "john"), names)
        self.no(("name", "john"), before)


if __name__ == "__main__":
    unittest.main()
