import copy
import unittest

from slashwise.meanings import unknown
from slashwise.readings import formed
from slashwise.steps import plain_of
from slashwise.telling import reading_at
from slashwise.turning import is_plain, turns
from tests.sowing import CHAIN, N, Sower, f, g, m, one_turns, readings_by_words, turning_sum, word

# A reading that may be turned at its top, and what it becomes.
TURNED = [
    ((">", (">>", f(0), f(1)), m(2)), (">", f(0), (">", f(1), m(2)))),
    ((">>", (">>", f(0), f(1)), f(2)), (">>", f(0), (">>", f(1), f(2)))),
    (("<", m(0), ("<<", g(1), g(2))), ("<", ("<", m(0), g(1)), g(2))),
    (("<<", g(0), ("<<", g(1), g(2))), ("<<", ("<<", g(0), g(1)), g(2))),
]
PLAIN = [
    m(0), f(7), (">", f(0), m(1)), ("<", m(0), g(1)), (">>", f(0), f(1)), ("<<", g(0), g(1)),
    (">", f(0), (">", f(1), m(2))), (">>", f(0), (">>", f(1), f(2))), ("<", ("<", m(0), g(1)), g(2)),
    ("<<", ("<<", g(0), g(1)), g(2)), (">", f(0), ("<", m(1), g(2))), ("<", (">", f(0), m(1)), g(2)),
]


class IsPlainTest(unittest.TestCase):
    def test_plain_ones(self):
        for reading in PLAIN + [turned for reading, turned in TURNED]:
            self.assertIs(is_plain(reading), True, reading)

    def test_turned_at_the_top(self):
        for reading, turned in TURNED:
            self.assertIs(is_plain(reading), False, reading)

    def test_turned_within(self):
        inner = (">", (">>", f(1), f(2)), m(3))
        for reading in [(">", f(0), inner), ("<", inner, g(4)), (">", f(0), ("<", inner, g(4))),
                        ("<", ("<", (">", f(0), inner), g(4)), g(5)),
                        (">", f(0), (">", f(1), ("<", m(2), ("<<", g(3), g(4))))),
                        (">", (">", word(0, "n/n/n"), ("<", m(1), ("<<", g(2), g(3)))), m(4))]:
            self.assertIs(is_plain(reading), False, reading)

    def test_signs_of_another_rule_below_do_not_turn(self):
        a = word(0, "n/n")
        for reading in [
            # The sign >> at the right of a >, the sign << at the left of a <, and each below a sign of the other lean.
            (">", word(0, "n/(n/n)"), (">>", f(1), f(2))),
            ("<", ("<<", g(0), g(1)), word(2, "n\\(n\\n)")),
            (">", word(0, "n/(n\\n)"), ("<<", g(1), g(2))),
            ("<", (">>", f(0), f(1)), word(2, "n\\(n/n)")),
            (">>", a, (">>", f(1), f(2))),
            ("<<", ("<<", g(0), g(1)), g(2)),
            (">>", word(0, "n/(n\\n)"), word(1, "n\\n/n")),
        ]:
            self.assertIs(is_plain(reading), True, reading)
            self.assertEqual(turns(reading), [reading])


class TurnsCase(unittest.TestCase):
    def check(self, reading):
        told = turns(reading)
        self.assertIsInstance(told, list)
        self.assertEqual(told[0], reading)
        for ahead, behind in zip(told, told[1:]):
            self.assertIn(behind, one_turns(ahead))
            self.assertLess(turning_sum(behind), turning_sum(ahead))
        for one in told:
            self.assertIs(is_plain(one), one_turns(one) == [])
        self.assertEqual(one_turns(told[-1]), [])
        return told[-1]


class TurnsTest(TurnsCase):
    def test_plain_ones(self):
        for reading in PLAIN:
            self.assertEqual(turns(reading), [reading])

    def test_turned_at_the_top(self):
        for reading, turned in TURNED:
            self.assertEqual(turns(reading), [reading, turned])

    def test_turned_deep_within_at_the_left_and_at_the_right(self):
        inner = (">", (">>", f(1), f(2)), m(3))
        better = (">", f(1), (">", f(2), m(3)))
        for wrap in [lambda part: (">", f(0), part), lambda part: ("<", part, g(4)),
                     lambda part: (">", f(0), ("<", ("<", part, g(4)), g(5)))]:
            self.assertEqual(turns(wrap(inner)), [wrap(inner), wrap(better)])

    def test_at_several_nodes(self):
        reading = ("<", (">", (">>", (">>", f(0), f(1)), f(2)), m(3)), ("<<", g(4), ("<<", g(5), g(6))))
        last = self.check(reading)
        self.assertEqual(last, ("<", ("<", ("<", (">", f(0), (">", f(1), (">", f(2), m(3)))), g(4)), g(5)), g(6)))
        self.assertGreater(len(turns(reading)), 4)

    def test_a_chain_of_ten_words(self):
        words = ("f",) * 9 + ("m",)
        best = m(9)
        for place in reversed(range(9)):
            best = (">", f(place), best)
        worst = f(0)
        for place in range(1, 9):
            worst = (">>", worst, f(place))
        self.assertEqual(self.check((">", worst, m(9))), best)
        for number in range(0, 4862, 97):
            self.assertEqual(self.check(reading_at(CHAIN, words, N, number)), best)

    def test_the_list_is_the_asker_s_own(self):
        reading, turned = TURNED[0]
        before = copy.deepcopy(reading)
        turns(reading).clear()
        self.assertEqual(turns(reading), [reading, turned])
        self.assertEqual(reading, before)


class ByChanceTest(TurnsCase):
    """What holds of each book and each sentence (3, 24, 25)."""

    def test_the_same_last_one_whichever_node_is_turned_first(self):
        many = 0
        for seed in range(120):
            sower = Sower(seed)
            book = sower.book()
            words = sower.sentence(book, 3 + seed % 4)
            for form, reading in readings_by_words(book, words, 0, len(words))[:40]:
                last = self.check(reading)
                self.assertEqual(ends_of(reading), {last})
                many += one_turns(reading) != []
        self.assertGreater(many, 300)

    def test_words_stretch_form_and_meaning_stay(self):
        many = 0
        for seed in range(120):
            sower = Sower(seed)
            book = sower.book()
            words = sower.sentence(book, 3 + seed % 4)
            for form, reading in readings_by_words(book, words, 0, len(words))[:10]:
                meant = plain_of(unknown(reading))
                for one in turns(reading) + one_turns(reading):
                    self.assertEqual(formed(book, words, one), (0, len(words), form))
                    self.assertEqual(plain_of(unknown(one)), meant)
                    many += 1
        self.assertGreater(many, 400)


def ends_of(reading):
    """All plain ones that a reading comes to, by whichever turns."""
    seen = {reading}
    todo = [reading]
    ends = set()
    while todo:
        one = todo.pop()
        others = one_turns(one)
        if not others:
            ends.add(one)
        for other in others:
            if other not in seen:
                seen.add(other)
                todo.append(other)
    return ends


if __name__ == "__main__":
    unittest.main()
