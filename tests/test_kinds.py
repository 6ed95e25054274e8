import itertools
import unittest

from slashwise.errors import NoKind
from slashwise.forms import kind_of_form, read_form
from slashwise.kinds import read_kind, show_kind
from tests.things import nested, no_texts


def right_chain(texts):
    return nested(texts - 1, "n", lambda kind: ("s", kind))


def left_chain(texts):
    return nested(texts - 1, "n", lambda kind: (kind, "s"))


def all_kinds(texts):
    if texts == 1:
        return ["n"]
    kinds = []
    for left in range(1, texts):
        kinds.extend(itertools.product(all_kinds(left), all_kinds(texts - left)))
    return kinds


def written(kind):
    """The text of a kind, told once more in the document's own words."""
    if isinstance(kind, str):
        return kind
    return "(" + written(kind[0]) + ">" + written(kind[1]) + ")"


class ReadKindTest(unittest.TestCase):
    def no(self, text):
        with self.assertRaises(NoKind) as caught:
            read_kind(text)
        self.assertIs(type(caught.exception), NoKind)

    def test_ordinary_texts(self):
        self.assertEqual(read_kind("s"), "s")
        self.assertEqual(read_kind("(n>s)"), ("n", "s"))
        self.assertEqual(read_kind("(n>(n>s))"), ("n", ("n", "s")))
        self.assertEqual(read_kind("((n>s)>s)"), (("n", "s"), "s"))
        self.assertEqual(read_kind("((n>s)>(abc>any))"), (("n", "s"), ("abc", "any")))

    def test_texts_of_one_to_eight_letters(self):
        self.assertEqual(read_kind("abcdefgh"), "abcdefgh")
        self.assertEqual(read_kind("(a>abcdefgh)"), ("a", "abcdefgh"))
        for text in ["", "abcdefghi", "(a>abcdefghi)", "(abcdefghi>a)", "()", "(>)", "(>n)", "(n>)"]:
            self.no(text)

    def test_at_most_twelve_texts(self):
        for build in [right_chain, left_chain]:
            self.assertEqual(read_kind(written(build(12))), build(12))
            self.no(written(build(13)))
            self.no(written(build(300)))

    def test_brackets_where_they_must_and_may_not_stand(self):
        for text in ["(n)", "((n>s))", "n>s", "(n>s", "n>s)", "(n>n>s)", "((n>s)>s", "(n>s))", "((n)>s)", "(n>(s))",
                     "(n s)", "(n>s)(n>s)", "(n>s)>s", "n(n>s)", "(n>s)n", "(n>>s)", "(nn(n>s))", "(", ")", ">", "((",
                     "))", ")n>s(", "(n>s>)", "(>n>s)", "((>n)", "(n>))"]:
            self.no(text)

    def test_other_signs(self):
        for text in [" n", "n ", "(n >s)", "( n>s)", "N", "n1", "(n<s)", "(n/s)", "[n>s]", "(n>s)\n", "\n", "#", "(n,s)",
                     "\u00e9", "(n>\u017f)", "~"]:
            self.no(text)

    def test_things_that_are_no_texts(self):
        for thing in no_texts() + [("n", "s"), ["n", "s"]]:
            self.no(thing)

    def test_hundreds_of_brackets(self):
        for many in [13, 300, 900]:
            for text in ["(" * many, ")" * many, "(" * many + "n" + ")" * many, "(" * many + "n" + ">s)" * many,
                         "(n>" * many, "(n>" * many + "s" + ")" * many, "(" * many + "n>s" + ")" * many,
                         "(>" * many, ">" * many]:
                self.no(text[:2000])

    def test_all_short_texts(self):
        readable = {}
        for texts in range(1, 4):
            for kind in all_kinds(texts):
                readable[written(kind)] = kind
        for many in range(10):
            for signs in itertools.product("n(>)", repeat=many):
                text = "".join(signs)
                if "nn" in text:
                    continue
                if text in readable:
                    self.assertEqual(read_kind(text), readable[text])
                else:
                    self.no(text)


class ShowKindTest(unittest.TestCase):
    def test_ordinary_kinds(self):
        self.assertEqual(show_kind("s"), "s")
        self.assertEqual(show_kind("abcdefgh"), "abcdefgh")
        self.assertEqual(show_kind(("n", "s")), "(n>s)")
        self.assertEqual(show_kind(("n", ("n", "s"))), "(n>(n>s))")
        self.assertEqual(show_kind((("n", "s"), "s")), "((n>s)>s)")
        self.assertEqual(show_kind(kind_of_form(read_form("s\\n/(n/n)"))), "((n>n)>(n>s))")

    def test_there_and_back(self):
        for texts in range(1, 7):
            for kind in all_kinds(texts):
                self.assertEqual(show_kind(kind), written(kind))
                self.assertEqual(read_kind(show_kind(kind)), kind)

    def test_as_many_texts_as_a_kind_has(self):
        for texts in [13, 400]:
            self.assertEqual(show_kind(right_chain(texts)), "(s>" * (texts - 1) + "n" + ")" * (texts - 1))
            self.assertEqual(show_kind(left_chain(texts)), "(" * (texts - 1) + "n" + ">s)" * (texts - 1))


if __name__ == "__main__":
    unittest.main()
