import copy
import unittest

from slashwise.forms import kind_of_form, read_form, show_form
from slashwise.rules import made, meant
from slashwise.steps import plain_of
from slashwise.terms import is_closed, is_sparing, kind_of
from slashwise.termtexts import read_term
from tests.sowing import made_by_words
from tests.things import bound, fn, leaf, of

# The sign, the left one, the right one, and what comes of them.
ORDINARY = [
    (">", "s/n", "n", "s"),
    (">", "s\\n/n", "n", "s\\n"),
    (">", "s/(s\\n)", "s\\n", "s"),
    (">", "s/n/pp", "pp", "s/n"),
    (">", "s/(n/n)", "n/n", "s"),
    ("<", "n", "s\\n", "s"),
    ("<", "n", "s/n\\n", "s/n"),
    ("<", "s/n", "s\\(s/n)", "s"),
    ("<", "pp", "s\\n\\pp", "s\\n"),
    ("<", "n\\n", "s\\(n\\n)", "s"),
    (">>", "s/n", "n/pp", "s/pp"),
    (">>", "s/s", "s/s", "s/s"),
    (">>", "s/(s\\n)", "s\\n/n", "s/n"),
    (">>", "s\\n/n", "n/(n/pp)", "s\\n/(n/pp)"),
    ("<<", "n\\pp", "s\\n", "s\\pp"),
    ("<<", "s\\s", "s\\s", "s\\s"),
    ("<<", "s/n\\n", "s\\(s/n)", "s\\n"),
    ("<<", "n\\(pp\\n)", "s/n\\n", "s/n\\(pp\\n)"),
]


def forms_of_size(size, basics):
    """All forms with so many basic ones."""
    if size == 1:
        return [("basic", name) for name in basics]
    return [(slash, left, right) for many in range(1, size) for left in forms_of_size(many, basics)
            for right in forms_of_size(size - many, basics) for slash in "/\\"]


FORMS = [form for size in [1, 2, 3] for form in forms_of_size(size, ["a", "b"])]


class MadeTest(unittest.TestCase):
    def test_each_rule(self):
        for sign, left, right, form in ORDINARY:
            told = made(read_form(left), read_form(right))
            self.assertEqual(told, (sign, read_form(form)), (left, right))
            self.assertIsInstance(told, tuple)

    def test_two_forms_that_no_rule_puts_together(self):
        for left, right in [("n", "n"), ("n", "s"), ("s/n", "s"), ("s/n", "s/n"), ("s\\n", "n"), ("n", "s/n"),
                            ("s/n", "n\\n"), ("n/n", "s\\n"), ("s\\n", "s\\n"), ("s/n", "s\\n"), ("s", "s\\(s/s)"),
                            ("s/(n/n)", "n"), ("s/(n/pp)", "n/n"), ("s/n", "s\\s/n"), ("s/n/n", "s/n"),
                            ("s\\n", "s\\(s/n)"), ("s/(s\\n)", "s/n"), ("n/n", "n\\n"), ("n\\n", "n/n"),
                            ("s/(n\\n)", "n\\n/pp/pp"), ("pp\\n\\n", "s\\pp")]:
            self.assertIsNone(made(read_form(left), read_form(right)), (left, right))

    def test_the_same_two_turned_about(self):
        for sign, left, right, form in ORDINARY:
            if left != right:
                self.assertIsNone(made(read_form(right), read_form(left)), (left, right))
        self.assertIsNone(made(read_form("n"), read_form("s/n")))
        self.assertIsNone(made(read_form("s\\n"), read_form("n")))
        self.assertEqual(made(read_form("n/(n/n)"), read_form("n/n")), (">", read_form("n")))
        self.assertEqual(made(read_form("n/n"), read_form("n/(n/n)")), (">>", read_form("n/(n/n)")))
        self.assertEqual(made(read_form("a/b"), read_form("b/a")), (">>", read_form("a/a")))
        self.assertEqual(made(read_form("b/a"), read_form("a/b")), (">>", read_form("b/b")))

    def test_the_rules_do_not_cross(self):
        for left, right in [("s/n", "n\\pp"), ("n/pp", "s\\n"), ("n\\pp", "s/n")]:
            self.assertIsNone(made(read_form(left), read_form(right)), (left, right))

    def test_all_small_forms(self):
        for left in FORMS:
            for right in FORMS:
                found = made_by_words(left, right)
                self.assertLessEqual(len(found), 1)
                self.assertEqual(made(left, right), found[0] if found else None, (show_form(left), show_form(right)))

    def test_large_forms(self):
        many = "/".join(["n"] * 11)
        self.assertEqual(made(read_form(many + "/n"), read_form("n")), (">", read_form(many)))
        self.assertEqual(made(read_form(f"s/({many})"), read_form(many)), (">", read_form("s")))
        self.assertEqual(made(read_form("n"), read_form(many + "\\n")), ("<", read_form(many)))
        self.assertIsNone(made(read_form(f"s/({many})"), read_form(many[2:])))
        self.assertEqual(made(read_form(f"s/({many})"), read_form(many + "/n")), (">>", read_form("s/n")))


class MeantTest(unittest.TestCase):
    def meant_by(self, sign, left, right, first, second):
        return meant(sign, read_form(left), read_form(right), first, second)

    def test_each_rule(self):
        f, a = read_term("f"), read_term("a")
        self.assertEqual(self.meant_by(">", "s/n", "n", f, a), ("of", f, a))
        self.assertEqual(self.meant_by("<", "n", "s\\n", a, f), ("of", f, a))
        self.assertEqual(self.meant_by(">>", "s/n", "n/pp", f, a), ("fn", "pp", of(f, of(a, bound(0)))))
        self.assertEqual(self.meant_by("<<", "n\\pp", "s\\n", a, f), ("fn", "pp", of(f, of(a, bound(0)))))

    def test_the_kind_of_z_where_z_is_not_basic(self):
        f, g = read_term("f"), read_term("g")
        self.assertEqual(self.meant_by(">>", "s/n", "n/(s\\n/pp)", f, g),
                         ("fn", ("pp", ("n", "s")), of(f, of(g, bound(0)))))
        self.assertEqual(self.meant_by("<<", "n\\(s/pp)", "s\\n", g, f),
                         ("fn", ("pp", "s"), of(f, of(g, bound(0)))))

    def test_bound_ones_in_what_is_put_together(self):
        first = fn("n", fn("n", of(("name", "love"), bound(0), bound(1))))
        second = fn("pp", of(fn("n", bound(0)), of(("name", "at"), bound(0))))
        self.assertEqual(self.meant_by(">", "s/n/n", "n", first, second), ("of", first, second))
        self.assertEqual(self.meant_by("<", "n", "s\\n\\n", second, first), ("of", first, second))
        self.assertEqual(self.meant_by(">>", "s/n/n", "n/pp", first, second),
                         ("fn", "pp", ("of", first, ("of", second, bound(0)))))
        self.assertEqual(self.meant_by("<<", "n\\pp", "s\\n\\n", second, first),
                         ("fn", "pp", ("of", first, ("of", second, bound(0)))))
        told = plain_of(self.meant_by(">>", "s/n/n", "n/pp", first, second))
        self.assertEqual(told, read_term("[pp][n]love(#0)(at(#1))"))

    def test_it_is_not_brought_to_plain_form(self):
        same = read_term("[n]#0")
        self.assertEqual(self.meant_by(">", "n/n", "n", same, read_term("m")), read_term("([n]#0)(m)"))
        self.assertEqual(self.meant_by("<<", "n\\n", "n\\n", same, same), read_term("[n]([n]#0)(([n]#0)(#0))"))

    def test_the_kind_is_that_of_the_form_whatever_the_words_mean(self):
        for left in FORMS:
            for right in FORMS:
                for sign, form in made_by_words(left, right):
                    term = meant(sign, left, right, ("leaf", 0, left), ("leaf", 1, right))
                    self.assertEqual(kind_of([], term), kind_of_form(form))
                    self.assertTrue(is_closed(term) and is_sparing(term))

    def test_nothing_that_is_handed_in_is_changed(self):
        for sign, left, right, form in ORDINARY:
            given = (read_form(left), read_form(right), leaf(0, left), leaf(1, right))
            before = copy.deepcopy(given)
            made(given[0], given[1])
            meant(sign, *given)
            self.assertEqual(given, before)


if __name__ == "__main__":
    unittest.main()
