import copy
import itertools
import unittest
from collections import namedtuple

from slashwise.errors import NoForm
from slashwise.forms import is_form, kind_of_form, parts_of, read_form, show_form
from tests.things import Agreeable, Quarrelsome, nested, no_texts

S = ("basic", "s")
N = ("basic", "n")
INTRANSITIVE = ("\\", S, N)
TRANSITIVE = ("/", INTRANSITIVE, N)


def right_chain(basics):
    """s/(s/(s ... with so many basic ones."""
    return nested(basics - 1, S, lambda form: ("/", S, form))


def left_chain(basics):
    """s\\s\\s ... with so many basic ones."""
    return nested(basics - 1, S, lambda form: ("\\", form, S))


def balanced(basics):
    if basics == 1:
        return N
    return ("/", balanced(basics // 2), balanced(basics - basics // 2))


def all_forms(basics, names=("s",)):
    """All forms with just so many basic ones."""
    if basics == 1:
        return [("basic", name) for name in names]
    forms = []
    for left in range(1, basics):
        for x, y in itertools.product(all_forms(left, names), all_forms(basics - left, names)):
            forms.extend([("/", x, y), ("\\", x, y)])
    return forms


def written(form):
    """The text of a form, told once more in the document's own words."""
    if form[0] == "basic":
        return form[1]
    y = written(form[2])
    return written(form[1]) + form[0] + (y if form[2][0] == "basic" else "(" + y + ")")


class IsFormTest(unittest.TestCase):
    def yes(self, thing):
        self.assertIs(is_form(thing), True, thing)

    def no(self, thing):
        self.assertIs(is_form(thing), False)

    def test_ordinary_forms(self):
        for form in [S, N, INTRANSITIVE, TRANSITIVE, ("/", S, INTRANSITIVE), ("\\", TRANSITIVE, TRANSITIVE)]:
            self.yes(form)
        for basics in range(1, 5):
            for form in all_forms(basics):
                self.yes(form)

    def test_names_of_one_to_eight_small_letters(self):
        for name in ["a", "z", "az", "abcdefgh", "zzzzzzzz", "any", "basic"]:
            self.yes(("basic", name))
        for name in ["", "abcdefghi", "A", "aB", "a1", "1", " ", "a ", " a", "a\n", "a-b", "a/b", "`", "{", "\u00e9",
                     "\u017f", "\u0430"]:
            self.no(("basic", name))

    def test_at_most_twelve_basic_ones(self):
        for build in [right_chain, left_chain, balanced]:
            self.yes(build(11))
            self.yes(build(12))
            self.no(build(13))
            self.no(build(14))

    def test_equal_basic_ones_count_each_time(self):
        four = ("/", INTRANSITIVE, INTRANSITIVE)
        self.yes(("/", ("\\", four, four), four))
        self.no(("/", ("/", ("\\", four, four), four), S))

    def test_no_tuples(self):
        for thing in no_texts() + ["", "s", "s/n", "basic", "/"]:
            self.no(thing)

    def test_a_list_for_a_tuple(self):
        for thing in [["basic", "s"], ["/", S, N], ("/", ["basic", "s"], N), ("\\", S, ["basic", "n"]),
                      ("/", S, ["\\", S, N])]:
            self.no(thing)

    def test_one_thing_more_or_fewer(self):
        for thing in [(), ("basic",), ("basic", "s", "s"), ("basic", "s", N), ("/",), ("/", S), ("\\", S, N, N),
                      ("/", S, N, None), (S, N), (S,), ("s",), ("/", ("basic",), N), ("/", S, ("basic", "s", "s"))]:
            self.no(thing)

    def test_other_things_in_the_place_of_a_text_or_a_form(self):
        for odd in [True, False, None, 0, 1, b"s", [], (), "", {}, Agreeable(), Quarrelsome(), object()]:
            for thing in [("basic", odd), (odd, "s"), (odd, S, N), ("/", odd, N), ("\\", S, odd), (odd,), (odd, odd),
                          (odd, odd, odd), ("/", S, ("basic", odd)), ("/", (odd, S, N), N)]:
                self.no(thing)

    def test_a_text_for_a_form_and_a_form_for_a_text(self):
        for thing in [("/", "s", "n"), ("/", S, "n"), ("\\", "s", N), ("basic", S), (S, S, N)]:
            self.no(thing)

    def test_other_heads(self):
        for head in ["|", "//", "\\\\", "", " /", "Basic", "basics", "name", "leaf", "s", "of"]:
            self.no((head, S, N))
            self.no((head, "s"))
        self.no(("basic", S, N))
        self.no(("/", "s"))

    def test_nested_hundreds_deep(self):
        for depth in [100, 300, 500]:
            self.no(right_chain(depth))
            self.no(left_chain(depth))
            self.no(nested(depth, None, lambda thing: ("/", S, thing)))
            self.no(nested(depth, None, lambda thing: ("/", thing, S)))
            self.no(nested(depth, S, lambda thing: ("/", thing, thing)))
            self.no(nested(depth, None, lambda thing: ("/", thing, thing)))
            self.no(nested(depth, S, lambda thing: (thing,)))
            self.no(nested(depth, S, lambda thing: [thing]))
            self.no(nested(depth, S, lambda thing: ("basic", thing)))
            self.no(("basic", nested(depth, "s", lambda thing: (thing,))))

    def test_a_list_that_holds_itself(self):
        ring = []
        ring.append(ring)
        self.no(ring)
        self.no(("/", S, ring))

    def test_a_named_tuple_is_a_tuple(self):
        pair = namedtuple("pair", "head name")
        self.yes(pair("basic", "s"))

    def test_what_is_handed_in_is_not_changed(self):
        thing = ("/", S, ["basic", "n", ["x"]])
        before = copy.deepcopy(thing)
        is_form(thing)
        self.assertEqual(thing, before)


class ReadFormTest(unittest.TestCase):
    def no(self, text):
        with self.assertRaises(NoForm) as caught:
            read_form(text)
        self.assertIs(type(caught.exception), NoForm)

    def test_the_document_s_own(self):
        self.assertEqual(read_form("s\\n/n"), ("/", ("\\", S, N), N))
        self.assertEqual(read_form("s/(s\\n)"), ("/", S, ("\\", S, N)))

    def test_ordinary_texts(self):
        self.assertEqual(read_form("s"), S)
        self.assertEqual(read_form("s/n"), ("/", S, N))
        self.assertEqual(read_form("s\\n"), INTRANSITIVE)
        self.assertEqual(read_form("s/n/n\\n"), ("\\", ("/", ("/", S, N), N), N))
        self.assertEqual(read_form("s/(s/(s\\n))\\(n/n)"),
                         ("\\", ("/", S, ("/", S, ("\\", S, N))), ("/", N, N)))
        self.assertEqual(read_form("s\\n\\(s\\n)/(s\\n\\(s\\n))"),
                         ("/", ("\\", INTRANSITIVE, INTRANSITIVE), ("\\", INTRANSITIVE, INTRANSITIVE)))

    def test_names_of_one_to_eight_letters(self):
        self.assertEqual(read_form("abcdefgh"), ("basic", "abcdefgh"))
        self.assertEqual(read_form("a/abcdefgh"), ("/", ("basic", "a"), ("basic", "abcdefgh")))
        for text in ["", "abcdefghi", "s/abcdefghi", "abcdefghi/s", "s/", "/s", "s//n", "s/\\n", "\\", "/"]:
            self.no(text)

    def test_at_most_twelve_basic_ones(self):
        for build in [right_chain, left_chain, balanced]:
            self.assertEqual(read_form(written(build(12))), build(12))
            self.no(written(build(13)))
            self.no(written(build(200)))

    def test_brackets_where_they_may_not_stand(self):
        for text in ["(s)", "(s/n)", "(s\\n)/n", "s/(n)", "s\\(n)", "s/((s\\n))", "s/((n))", "()", "s/()", "s/(n/(n))",
                     "s(n)", "s(s/n)", "(s/n", "s/n)", "s/(s\\n", "s/(s\\n))", "s/s\\n)", ")s", ")", "(", ")(", "s/(",
                     "s/(s\\n)n", "s/(s\\n)(s\\n)", "s/(/n)", "s/(n/)", "s/(s\\n)/", "/(s\\n)", "s/n(", "s/(n/(n\\s)",
                     "s/((s\\n)/n)", "s/(s/n s)"]:
            self.no(text)

    def test_other_signs(self):
        for text in [" s", "s ", "s /n", "s/ n", "s\n", "\ns", "S", "s|n", "s/1", "s1", "s/n.", "s>n", "[s]", "s/[n]",
                     "s-n", "s\t", "\u00e9", "s\u2215n", "#0", "s/\u017f", "~"]:
            self.no(text)

    def test_things_that_are_no_texts(self):
        for thing in no_texts() + [S, TRANSITIVE]:
            self.no(thing)

    def test_hundreds_of_brackets(self):
        for many in [13, 300, 900]:
            for text in ["(" * many, ")" * many, "(" * many + "s" + ")" * many, "s/(" * many, "/(" * many,
                         "s/(" * many + "s\\n" + ")" * many, "s/" + "(" * many + "s\\n" + ")" * many,
                         "(" * many + "s/n" + ")/n" * many, "s/()" * many]:
                self.no(text[:2000])

    def test_all_short_texts(self):
        readable = {}
        for basics in range(1, 6):
            for form in all_forms(basics):
                readable[written(form)] = form
        for many in range(8):
            for signs in itertools.product("s/\\()", repeat=many):
                text = "".join(signs)
                if "ss" in text:
                    continue
                if text in readable:
                    self.assertEqual(read_form(text), readable[text])
                else:
                    self.no(text)


class ShowFormTest(unittest.TestCase):
    def test_the_document_s_own(self):
        self.assertEqual(show_form(("/", ("\\", S, N), N)), "s\\n/n")
        self.assertEqual(show_form(("/", S, ("\\", S, N))), "s/(s\\n)")

    def test_brackets_at_the_right_alone(self):
        self.assertEqual(show_form(S), "s")
        self.assertEqual(show_form(("\\", ("/", S, ("/", N, N)), ("\\", S, ("/", N, N)))), "s/(n/n)\\(s\\(n/n))")

    def test_there_and_back(self):
        for basics in range(1, 5):
            for form in all_forms(basics, ("s", "np")):
                self.assertEqual(show_form(form), written(form))
                self.assertEqual(read_form(show_form(form)), form)
        for build in [right_chain, left_chain, balanced]:
            self.assertEqual(read_form(show_form(build(12))), build(12))

    def test_a_form_somewhat_too_large_is_shown(self):
        for build in [right_chain, left_chain, balanced]:
            self.assertEqual(show_form(build(20)), written(build(20)))


class PartsOfTest(unittest.TestCase):
    def test_the_form_then_x_then_y(self):
        self.assertEqual(parts_of(S), [S])
        self.assertEqual(parts_of(TRANSITIVE), [TRANSITIVE, INTRANSITIVE, S, N, N])
        form = read_form("a\\b/(c/d)")
        self.assertEqual([show_form(part) for part in parts_of(form)],
                         ["a\\b/(c/d)", "a\\b", "a", "b", "c/d", "c", "d"])

    def test_each_part_as_often_as_it_stands_there(self):
        self.assertEqual(parts_of(("/", S, S)), [("/", S, S), S, S])
        self.assertEqual(len(parts_of(balanced(12))), 23)

    def test_the_list_is_new_and_the_asker_s_own(self):
        for form in [S, TRANSITIVE]:
            first = parts_of(form)
            second = parts_of(form)
            self.assertIsInstance(first, list)
            self.assertIsNot(first, second)
            first.clear()
            self.assertEqual(second, parts_of(form))
            self.assertNotEqual(second, [])


class KindOfFormTest(unittest.TestCase):
    def test_from_what_it_wants_to_what_it_is_then(self):
        self.assertEqual(kind_of_form(S), "s")
        self.assertEqual(kind_of_form(("/", S, N)), ("n", "s"))
        self.assertEqual(kind_of_form(("\\", S, N)), ("n", "s"))
        self.assertEqual(kind_of_form(TRANSITIVE), ("n", ("n", "s")))
        self.assertEqual(kind_of_form(read_form("s/(s\\n)")), (("n", "s"), "s"))
        self.assertEqual(kind_of_form(read_form("a\\b/(c/d)")), (("d", "c"), ("b", "a")))


if __name__ == "__main__":
    unittest.main()
