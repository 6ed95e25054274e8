import copy
import unittest

from slashwise.booktexts import read_book
from slashwise.errors import NoReading
from slashwise.forms import read_form, show_form
from slashwise.readings import formed
from tests.sowing import Sower, readings_by_words, word
from tests.things import Agreeable, Quarrelsome, nested, no_texts, refusal

BOOK = read_book("\n".join([
    "basics s n pp",
    "name mary n",
    "name love (n>(n>s))",
    "name sleep (n>s)",
    "name old (n>n)",
    "name at (n>pp)",
    "word mary n mary",
    "word loves s\\n/n love",
    "word sleeps s\\n sleep",
    "word old n/n old",
    "word there n\\n old",
    "word at pp/n at",
    "word saw s\\n/n love",
    "word saw n mary",
]))
WORDS = ("mary", "loves", "old", "mary")
MARY = word(0, "n")
LOVES = word(1, "s\\n/n")
OLD = word(2, "n/n")
LAST = word(3, "n")
WHOLE = ("<", MARY, (">", LOVES, (">", OLD, LAST)))
OTHER = ("<", MARY, (">", (">>", LOVES, OLD), LAST))


class FormedTest(unittest.TestCase):
    def told(self, reading, words=WORDS):
        i, j, form = formed(BOOK, words, reading)
        return (i, j, show_form(form))

    def no(self, reading, words=WORDS):
        # The thing itself is not shown: nested with itself it may be far too large for that.
        self.assertEqual(refusal(formed, BOOK, words, reading), (NoReading, {}))

    def test_words(self):
        self.assertEqual(formed(BOOK, WORDS, MARY), (0, 1, ("basic", "n")))
        self.assertEqual(self.told(LOVES), (1, 2, "s\\n/n"))
        self.assertEqual(self.told(LAST), (3, 4, "n"))
        self.assertEqual(self.told(word(0, "n"), ("saw",)), (0, 1, "n"))
        self.assertEqual(self.told(word(0, "s\\n/n"), ("saw",)), (0, 1, "s\\n/n"))

    def test_each_rule(self):
        self.assertEqual(self.told((">", OLD, LAST)), (2, 4, "n"))
        self.assertEqual(self.told((">>", LOVES, OLD)), (1, 3, "s\\n/n"))
        self.assertEqual(self.told(("<", word(0, "n"), word(1, "n\\n")), ("mary", "there")), (0, 2, "n"))
        self.assertEqual(self.told(("<<", word(1, "n\\n"), word(2, "s\\n")), ("mary", "there", "sleeps")),
                         (1, 3, "s\\n"))

    def test_the_whole_and_parts(self):
        self.assertEqual(self.told(WHOLE), (0, 4, "s"))
        self.assertEqual(self.told(OTHER), (0, 4, "s"))
        self.assertEqual(self.told(WHOLE[2]), (1, 4, "s\\n"))
        self.assertIsInstance(formed(BOOK, WORDS, WHOLE), tuple)

    def test_the_same_word_at_several_places(self):
        words = ("saw", "saw", "saw")
        self.assertEqual(self.told((">", word(1, "s\\n/n"), word(2, "n")), words), (1, 3, "s\\n"))
        self.assertEqual(self.told(("<", word(0, "n"), (">", word(1, "s\\n/n"), word(2, "n"))), words), (0, 3, "s"))
        self.no((">", word(0, "s\\n/n"), word(0, "n")), words)
        self.no((">", word(0, "s\\n/n"), word(2, "n")), words)

    def test_ten_words(self):
        words = ("old",) * 9 + ("mary",)
        reading = word(9, "n")
        for place in reversed(range(9)):
            reading = (">", word(place, "n/n"), reading)
        self.assertEqual(self.told(reading, words), (0, 10, "n"))
        other = word(0, "n/n")
        for place in range(1, 9):
            other = (">>", other, word(place, "n/n"))
        self.assertEqual(self.told(other, words), (0, 9, "n/n"))
        self.assertEqual(self.told((">", other, word(9, "n")), words), (0, 10, "n"))

    def test_what_is_no_tuple_of_three(self):
        for thing in no_texts() + ["", "word", "word mary", WHOLE[:2], WHOLE + ((),), (), ("word",), ("word", 0),
                                   MARY + (1,), ("<",), ("<", MARY), (WHOLE,), [WHOLE], (None, None, None),
                                   "abc", (0, 1, ("basic", "n"))]:
            self.no(thing)
            self.no(("<", thing, WHOLE[2]))
            self.no(("<", MARY, thing))

    def test_a_list_for_a_tuple(self):
        self.no(list(MARY))
        self.no(list(WHOLE))
        self.no(("<", list(MARY), WHOLE[2]))
        self.no(("<", MARY, list(WHOLE[2])))
        self.no(("word", 0, ["basic", "n"]))
        self.no(("word", 1, ("/", ["\\", ("basic", "s"), ("basic", "n")], ("basic", "n"))))

    def test_other_signs(self):
        for sign in ["", "<<", ">", ">>", "=", "/", "\\", "<>", " <", "< ", "Word", "words", None, 0, True, b"<",
                     ("<",), ["<"], Agreeable(), Quarrelsome()]:
            self.no((sign, MARY, WHOLE[2]))
        for sign in ["Word", "words", "", "leaf", "name", "basic", None, 0, b"word", Agreeable(), Quarrelsome()]:
            self.no((sign, 0, read_form("n")))

    def test_places(self):
        for place in [-1, -4, 4, 10 ** 59, -10 ** 59, True, False, None, "0", "", b"0", (0,), [0], Agreeable(),
                      Quarrelsome(), ("word", 0, read_form("n"))]:
            self.no(("word", place, read_form("n")))
        self.no(("word", True, read_form("s\\n/n")))
        self.no(("word", False, read_form("n")), ("mary",))
        self.no(("word", 1, read_form("n")), ("mary",))
        self.no(("<", ("word", False, read_form("n")), WHOLE[2]))

    def test_forms(self):
        for form in ["n", None, 0, True, (), ("n",), ("basic",), ("basic", "s"), ("basic", "n", "n"), ("Basic", "n"),
                     ("basic", None), ("basic", ["n"]), read_form("n/n"), read_form("x"), Agreeable(), Quarrelsome(),
                     ("basic", Agreeable()), (Agreeable(), "n"), MARY, "basic n", {"basic": "n"}]:
            self.no(("word", 0, form))
        self.no(word(1, "s\\n"))
        self.no(word(1, "s/n\\n"))
        self.no(("word", 1, ("/", ("\\", ("basic", "s"), ("basic", "n")), Agreeable())))
        self.no(word(0, "s\\n/n"), ("old", "saw"))

    def test_stretches_that_do_not_meet(self):
        self.no((">", LOVES, LAST))
        self.no((">", LOVES, MARY))
        self.no((">", OLD, MARY))
        self.no(("<", LAST, WHOLE[2]))
        self.no(("<", (">", OLD, LAST), LOVES))
        self.no((">", (">>", LOVES, OLD), (">", OLD, LAST)))
        words = ("old", "old", "mary")
        self.no((">>", word(0, "n/n"), word(0, "n/n")), words)
        self.no((">>", word(1, "n/n"), word(0, "n/n")), words)
        self.no((">", word(0, "n/n"), word(2, "n")), words)

    def test_forms_that_the_sign_s_rule_does_not_put_together(self):
        for sign in ["<", ">>", "<<"]:
            self.no((sign, OLD, LAST))
        for sign in [">", "<", "<<"]:
            self.no((sign, LOVES, OLD))
        for sign in [">", "<", ">>", "<<"]:
            self.no((sign, MARY, LOVES))
            self.no((sign, word(0, "n"), word(1, "n")), ("mary", "mary"))
        self.no(("<", MARY, ("<", LOVES, (">", OLD, LAST))))
        self.no((">", MARY, WHOLE[2]))

    def test_words_that_the_book_has_not(self):
        words = ("john", "loves", "old", "mary")
        self.no(word(0, "n"), words)
        self.no(WHOLE, words)
        self.assertEqual(self.told(WHOLE[2], words), (1, 4, "s\\n"))
        self.no(word(1, "n"), ("mary", ""))
        self.assertEqual(self.told(word(0, "n"), ("mary", "")), (0, 1, "n"))

    def test_no_words(self):
        for thing in [MARY, WHOLE, (), None, "", word(-1, "n"), ("word", 0, None)]:
            self.no(thing, ())

    def test_nested_forty_deep(self):
        for depth in [5, 20, 40]:
            self.no(nested(depth, MARY, lambda inner: ("<", inner, inner)))
            self.no(nested(depth, MARY, lambda inner: (">", MARY, inner)))
            self.no(nested(depth, MARY, lambda inner: (">>", inner, MARY)))
            self.no(nested(depth, None, lambda inner: ("<", inner, MARY)))
            self.no(nested(depth, (), lambda inner: (inner,)))
            self.no(("word", 0, nested(depth, ("basic", "n"), lambda inner: ("/", inner, inner))))
            self.no(("word", nested(depth, 0, lambda inner: (inner, inner)), read_form("n")))

    def test_nothing_that_is_handed_in_is_changed(self):
        given = (BOOK, WORDS, WHOLE)
        before = copy.deepcopy(given)
        formed(*given)
        listed = ["<", [MARY], {"a": [1]}]
        self.no(listed)
        self.assertEqual(listed, ["<", [MARY], {"a": [1]}])
        self.assertEqual(given, before)

    def test_all_readings_by_chance(self):
        many = 0
        for seed in range(120):
            sower = Sower(seed)
            book = sower.book()
            words = sower.sentence(book, 1 + seed % 6)
            for i in range(len(words)):
                for j in range(i + 1, len(words) + 1):
                    for form, reading in readings_by_words(book, words, i, j)[:50]:
                        self.assertEqual(formed(book, words, reading), (i, j, form))
                        many += 1
        self.assertGreater(many, 2000)

    def test_readings_with_one_thing_changed(self):
        for seed in range(40):
            sower = Sower(seed)
            book = sower.book()
            words = sower.sentence(book, 4)
            everything = [readings_by_words(book, words, i, j) for i in range(4) for j in range(i + 1, 5)]
            right = {reading for stretch in everything for form, reading in stretch}
            for form, reading in readings_by_words(book, words, 0, 4)[:20]:
                for other in changed(reading):
                    if other not in right:
                        self.assertEqual(refusal(formed, book, words, other), (NoReading, {}))


def changed(reading):
    """A reading with another sign, place or form somewhere, or with two neighbours turned about."""
    if reading[0] == "word":
        return [("word", reading[1] + 1, reading[2]), ("word", reading[1] - 1, reading[2]),
                ("word", reading[1], ("/", reading[2], reading[2]))]
    sign, left, right = reading
    others = [(own, left, right) for own in [">", "<", ">>", "<<"] if own != sign]
    others.append((sign, right, left))
    others += [(sign, other, right) for other in changed(left)]
    return others + [(sign, left, other) for other in changed(right)]


if __name__ == "__main__":
    unittest.main()
