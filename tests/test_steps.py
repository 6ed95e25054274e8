import copy
import itertools
import random
import unittest

from slashwise.errors import NoKind, NoPlace
from slashwise.steps import done_at, is_plain_term, places, plain_of, steps_of
from slashwise.terms import depth_of, is_closed, is_sparing, kind_of, size_of
from slashwise.termtexts import show_term
from tests.things import bound, fn, leaf, nested, of

MARY = ("name", "mary")
JOHN = ("name", "john")
LOVE = ("name", "love")
SAME = fn("n", bound(0))


def all_terms(size, fns=0):
    """All terms of this size over one name, their bound ones within so many fns around."""
    if size == 1:
        return [("name", "m")] + [bound(k) for k in range(fns)]
    terms = [fn("n", body) for body in all_terms(size - 1, fns + 1)]
    for left in range(1, size - 1):
        terms.extend(of(f, a) for f, a in itertools.product(all_terms(left, fns), all_terms(size - 1 - left, fns)))
    return terms


def named(term, around=(), fresh=None):
    """A closed term with its fns numbered, and each bound one told by its fn's number: nothing is counted here."""
    fresh = fresh or itertools.count()
    if term[0] == "bound":
        return ("var", around[-1 - term[1]])
    if term[0] == "fn":
        number = next(fresh)
        return ("fn", number, term[1], named(term[2], around + (number,), fresh))
    if term[0] == "of":
        return ("of", named(term[1], around, fresh), named(term[2], around, fresh))
    return term


def counted(term, around=()):
    """Back from fns that are numbered to bound ones that are counted."""
    if term[0] == "var":
        return bound(around[::-1].index(term[1]))
    if term[0] == "fn":
        return ("fn", term[2], counted(term[3], around + (term[1],)))
    if term[0] == "of":
        return ("of", counted(term[1], around), counted(term[2], around))
    return term


def replaced(body, number, a):
    if body == ("var", number):
        return a
    if body[0] == "fn":
        return ("fn", body[1], body[2], replaced(body[3], number, a))
    if body[0] == "of":
        return ("of", replaced(body[1], number, a), replaced(body[2], number, a))
    return body


def done_by_names(term, place):
    """What comes of a closed term at a place to be done, told once more by fns that are numbered."""
    def down(part, rest):
        if not rest:
            return replaced(part[1][3], part[1][1], part[2])
        if part[0] == "fn":
            return part[:3] + (down(part[3], rest[1:]),)
        inner = list(part[1:])
        inner[rest[0]] = down(inner[rest[0]], rest[1:])
        return ("of", *inner)
    return counted(down(named(term), place))


def places_by_calls(term, place=()):
    """The places to be done, told once more in the document's own words."""
    found = []
    if term[0] == "of":
        if term[1][0] == "fn":
            found.append(place)
        found += places_by_calls(term[1], place + (0,)) + places_by_calls(term[2], place + (1,))
    if term[0] == "fn":
        found += places_by_calls(term[2], place + (0,))
    return found


class Sower:
    """Sparing terms of a told kind, one after the other, always the same ones."""

    def __init__(self, seed):
        self.chance = random.Random(seed)
        self.names = {}

    def kind(self, fuel=2):
        if fuel == 0 or self.chance.random() < 0.6:
            return self.chance.choice(["n", "s"])
        return (self.kind(fuel - 1), self.kind(fuel - 1))

    def name(self, kind):
        number = list(self.names).index(kind) if kind in self.names else len(self.names)
        self.names.setdefault(kind, "abcdefghijklmnopqrstuvwxyz"[number // 26] + chr(97 + number % 26))
        return ("name", self.names[kind])

    def pairs(self):
        return [(name, kind) for kind, name in self.names.items()]

    def term(self, kind, fuel, free=(), fns=0):
        """A term of this kind; free has the bound ones that may still stand: the number of their fn, and its kind."""
        fitting = [number for number, own in free if own == kind]
        if fuel <= 0:
            return bound(fns - 1 - fitting[0]) if fitting else self.name(kind)
        if isinstance(kind, tuple) and self.chance.random() < 0.6:
            return ("fn", kind[0], self.term(kind[1], fuel - 1, free + ((fns, kind[0]),), fns + 1))
        given = self.kind()
        left = [pair for pair in free if self.chance.random() < 0.5]
        right = [pair for pair in free if pair not in left]
        return ("of", self.term((given, kind), fuel - 1, tuple(left), fns),
                self.term(given, fuel - 1, tuple(right), fns))


def sown(seeds, fuel):
    for seed in seeds:
        sower = Sower(seed)
        kind = sower.kind()
        term = sower.term(kind, fuel)
        yield sower.pairs(), kind, term


class PlacesTest(unittest.TestCase):
    def test_none(self):
        for term in [MARY, leaf(0, "s"), SAME, of(LOVE, MARY), of(LOVE, SAME), fn("n", of(bound(0), SAME)),
                     of(of(LOVE, SAME), SAME), fn("n", fn("n", of(LOVE, bound(0), bound(1))))]:
            self.assertEqual(places(term), [])

    def test_the_term_itself(self):
        self.assertEqual(places(of(SAME, MARY)), [()])
        self.assertEqual(places(of(fn("n", MARY), leaf(1, "n"))), [()])

    def test_ways_down(self):
        self.assertEqual(places(fn("n", of(SAME, bound(0)))), [(0,)])
        self.assertEqual(places(of(of(SAME, MARY), MARY)), [(0,)])
        self.assertEqual(places(of(LOVE, of(SAME, MARY))), [(1,)])
        self.assertEqual(places(fn("n", of(LOVE, of(of(SAME, bound(0)), MARY)))), [(0, 1, 0)])

    def test_an_of_ahead_of_what_is_in_it_and_f_ahead_of_a(self):
        ready = of(SAME, MARY)
        self.assertEqual(places(of(ready, ready)), [(0,), (1,)])
        self.assertEqual(places(of(fn("n", ready), ready)), [(), (0, 0), (1,)])
        term = of(fn("n", of(fn("n", of(bound(0), ready)), of(ready, ready))), of(LOVE, ready))
        self.assertEqual(places(term), [(), (0, 0), (0, 0, 0, 0, 1), (0, 0, 1, 0), (0, 0, 1, 1), (1, 1)])

    def test_all_small_terms(self):
        for size in range(1, 8):
            for term in all_terms(size):
                self.assertEqual(places(term), places_by_calls(term))

    def test_deep_and_large_terms(self):
        self.assertEqual(places(nested(150, of(SAME, MARY), lambda term: fn("n", term))), [(0,) * 150])
        self.assertEqual(places(nested(133, MARY, lambda term: of(SAME, term))), [(1,) * k for k in range(133)])
        self.assertEqual(places(nested(133, of(SAME, MARY), lambda term: of(term, MARY))), [(0,) * 133])
        term = nested(66, MARY, lambda inner: of(fn("n", inner), of(SAME, MARY)))
        self.assertEqual(size_of(term), 397)
        self.assertEqual(places(term), places_by_calls(term))

    def test_the_list_is_new_and_the_asker_s_own(self):
        term = of(SAME, of(SAME, MARY))
        first = places(term)
        self.assertIsInstance(first, list)
        first.clear()
        self.assertEqual(places(term), [(), (1,)])


class DoneAtTest(unittest.TestCase):
    def no(self, term, place):
        with self.assertRaises(NoPlace) as caught:
            done_at(term, place)
        self.assertIs(type(caught.exception), NoPlace)

    def test_a_fn_with_no_bound_one(self):
        self.assertEqual(done_at(of(fn("n", JOHN), MARY), ()), JOHN)
        self.assertEqual(done_at(of(fn("n", SAME), MARY), ()), SAME)

    def test_a_fn_with_one(self):
        self.assertEqual(done_at(of(SAME, MARY), ()), MARY)
        self.assertEqual(done_at(of(fn("n", of(LOVE, bound(0))), MARY), ()), of(LOVE, MARY))
        self.assertEqual(done_at(of(fn("n", of(bound(0), leaf(0, "n"))), leaf(1, "s/n")), ()),
                         of(leaf(1, "s/n"), leaf(0, "n")))

    def test_a_fn_with_two(self):
        both = fn("n", of(LOVE, bound(0), bound(0)))
        self.assertEqual(done_at(of(both, MARY), ()), of(LOVE, MARY, MARY))
        deeper = fn("n", of(LOVE, bound(0), fn("n", of(bound(0), bound(1)))))
        self.assertEqual(done_at(of(deeper, MARY), ()), of(LOVE, MARY, fn("n", of(bound(0), MARY))))

    def test_a_that_is_a_fn(self):
        self.assertEqual(done_at(of(fn("(n>n)", of(bound(0), MARY)), SAME), ()), of(SAME, MARY))
        self.assertEqual(done_at(of(fn("(n>n)", fn("n", bound(1))), SAME), ()), fn("n", SAME))

    def test_bound_ones_of_the_body_that_belong_to_fns_within_stay(self):
        self.assertEqual(done_at(of(fn("n", fn("s", of(bound(0), bound(1)))), MARY), ()), fn("s", of(bound(0), MARY)))

    def test_bound_ones_of_the_body_that_belong_further_out(self):
        term = fn("a", fn("b", of(fn("n", of(bound(2), bound(1), bound(0))), MARY)))
        self.assertEqual(done_at(term, (0, 0)), fn("a", fn("b", of(bound(1), bound(0), MARY))))
        term = fn("a", of(fn("n", fn("c", of(bound(2), bound(1), bound(0)))), MARY))
        self.assertEqual(done_at(term, (0,)), fn("a", fn("c", of(bound(1), MARY, bound(0)))))

    def test_bound_ones_of_a_that_belong_further_out(self):
        term = fn("a", of(fn("n", fn("c", fn("d", of(bound(2), bound(1))))), bound(0)))
        self.assertEqual(done_at(term, (0,)), fn("a", fn("c", fn("d", of(bound(2), bound(1))))))
        given = fn("e", of(bound(0), bound(1), bound(2)))
        term = fn("a", fn("b", of(fn("n", of(bound(0), fn("c", bound(1)))), given)))
        self.assertEqual(done_at(term, (0, 0)),
                         fn("a", fn("b", of(given, fn("c", fn("e", of(bound(0), bound(2), bound(3))))))))

    def test_the_rest_of_the_term_stays(self):
        ready = of(SAME, MARY)
        term = of(of(LOVE, ready), fn("n", of(ready, bound(0))))
        self.assertEqual(done_at(term, (0, 1)), of(of(LOVE, MARY), fn("n", of(ready, bound(0)))))
        self.assertEqual(done_at(term, (1, 0, 0)), of(of(LOVE, ready), fn("n", of(MARY, bound(0)))))

    def test_not_the_first_place_alone(self):
        term = of(fn("n", of(SAME, bound(0))), of(SAME, MARY))
        self.assertEqual(done_at(term, ()), of(SAME, of(SAME, MARY)))
        self.assertEqual(done_at(term, (0, 0)), of(SAME, of(SAME, MARY)))
        self.assertEqual(done_at(term, (1,)), of(fn("n", of(SAME, bound(0))), MARY))

    def test_all_small_terms(self):
        for size in range(4, 9):
            for term in all_terms(size):
                for place in places(term):
                    self.assertEqual(done_at(term, place), done_by_names(term, place), (term, place))

    def test_sparing_terms_at_each_place(self):
        for pairs, kind, term in sown(range(300), 5):
            for place in places(term):
                self.assertEqual(done_at(term, place), done_by_names(term, place), (term, place))

    def test_places_that_are_not_to_be_done(self):
        term = fn("n", of(of(LOVE, of(SAME, bound(0))), MARY))
        for place in [(), (0,), (0, 0), (0, 0, 0), (0, 0, 1, 0), (0, 0, 1, 0, 0), (0, 0, 1, 1), (0, 1)]:
            self.no(term, place)
        self.assertEqual(done_at(term, (0, 0, 1)), fn("n", of(of(LOVE, bound(0)), MARY)))

    def test_an_of_whose_f_is_no_fn(self):
        for term in [of(LOVE, MARY), of(leaf(0, "s/n"), leaf(1, "n")), of(of(SAME, MARY), MARY), of(LOVE, SAME)]:
            self.no(term, ())

    def test_within_a_name_a_leaf_or_a_bound_one(self):
        for term in [MARY, leaf(0, "s\\n/n")]:
            for place in [(), (0,), (1,), (0, 0), (2,)]:
                self.no(term, place)
        self.no(SAME, (0,))
        self.no(SAME, (0, 0))
        self.no(of(SAME, MARY), (0, 0, 0))
        self.no(of(SAME, MARY), (1, 0))

    def test_places_that_lead_nowhere(self):
        ready = of(SAME, MARY)
        for place in [(2,), (3,), (-1,), (-2,), (-3,), (10 ** 50,), (-10 ** 50,), (1, 1), (0, 1), (0, -1), (0, 2),
                      (0,) * 2000, (1,) * 2000]:
            self.no(ready, place)
            self.no(of(ready, ready), (0,) + place)
            self.no(fn("n", ready), (0,) + place)
        for k in [1, 2, -1, -2]:
            self.no(fn("n", ready), (k,))
            self.no(of(ready, ready), (-1,))
        self.no(of(LOVE, fn("n", ready)), (1, 1))

    def test_deep_and_large_terms(self):
        deep = nested(149, of(SAME, bound(148)), lambda term: fn("n", term))
        self.assertEqual(done_at(deep, (0,) * 149), nested(149, bound(148), lambda term: fn("n", term)))
        inner = nested(147, bound(147), lambda term: fn("n", term))
        term = fn("a", of(fn("n", inner), of(LOVE, bound(0))))
        self.assertEqual(done_at(term, (0,)),
                         fn("a", nested(147, of(LOVE, bound(147)), lambda part: fn("n", part))))
        chain = nested(132, of(SAME, MARY), lambda part: of(SAME, part))
        self.assertEqual(size_of(chain), 400)
        shorter = nested(132, MARY, lambda part: of(SAME, part))
        for k in [0, 1, 77, 132]:
            self.assertEqual(done_at(chain, (1,) * k), shorter)

    def test_a_fn_with_many_bound_ones(self):
        body = nested(90, bound(0), lambda part: of(part, bound(0)))
        given = nested(100, MARY, lambda part: of(LOVE, part))
        self.assertEqual(done_at(of(fn("n", body), given), ()),
                         nested(90, given, lambda part: of(part, given)))


class StepsTest(unittest.TestCase):
    def texts(self, term):
        return [show_term(step) for step in steps_of(term)]

    def test_a_plain_one_is_its_own_only_step(self):
        for term in [MARY, SAME, leaf(0, "s"), of(LOVE, MARY), fn("n", of(bound(0), SAME))]:
            self.assertEqual(steps_of(term), [term])
            self.assertEqual(plain_of(term), term)
            self.assertIs(is_plain_term(term), True)

    def test_by_the_first_place_each_time(self):
        swap = fn("n", fn("n", of(LOVE, bound(0), bound(1))))
        term = of(swap, of(SAME, MARY), of(SAME, JOHN))
        self.assertEqual(self.texts(term), [
            "([n][n]love(#0)(#1))(([n]#0)(mary))(([n]#0)(john))",
            "([n]love(#0)(([n]#0)(mary)))(([n]#0)(john))",
            "love(([n]#0)(john))(([n]#0)(mary))",
            "love(john)(([n]#0)(mary))",
            "love(john)(mary)",
        ])
        self.assertEqual(show_term(plain_of(term)), "love(john)(mary)")
        self.assertIs(is_plain_term(term), False)

    def test_what_is_left_out_takes_its_places_with_it(self):
        self.assertEqual(self.texts(of(fn("n", JOHN), of(SAME, MARY))), ["([n]john)(([n]#0)(mary))", "john"])

    def test_places_that_come_by_a_step(self):
        term = of(fn("(n>n)", of(bound(0), MARY)), SAME)
        self.assertEqual(self.texts(term), ["([(n>n)]#0(mary))([n]#0)", "([n]#0)(mary)", "mary"])
        self.assertIs(is_plain_term(of(of(fn("n", SAME), MARY), JOHN)), False)

    def test_a_term_that_is_not_sparing(self):
        both = fn("n", of(LOVE, bound(0), bound(0)))
        self.assertEqual(show_term(plain_of(of(both, of(SAME, MARY)))), "love(mary)(mary)")

    def test_sparing_terms_keep_what_is_promised_at_whichever_place(self):
        looked_at = 0
        for pairs, kind, term in sown(range(400), 5):
            self.assertTrue(is_sparing(term) and is_closed(term))
            self.assertEqual(kind_of(pairs, term), kind)
            plain = plain_of(term)
            for place in places(term):
                step = done_at(term, place)
                looked_at += 1
                self.assertLessEqual(size_of(step), size_of(term) - 3)
                self.assertTrue(is_sparing(step) and is_closed(step))
                self.assertEqual(kind_of(pairs, step), kind)
                self.assertEqual(plain_of(step), plain)
        self.assertGreater(looked_at, 400)

    def test_the_same_plain_form_by_the_last_places(self):
        for pairs, kind, term in sown(range(200), 6):
            other = term
            while not is_plain_term(other):
                other = done_at(other, places(other)[-1])
            self.assertEqual(other, plain_of(term))

    def test_small_sparing_terms_without_a_kind(self):
        for size in range(4, 8):
            for term in all_terms(size):
                if not is_sparing(term):
                    continue
                for place in places(term):
                    step = done_at(term, place)
                    self.assertLessEqual(size_of(step), size - 3)
                    self.assertTrue(is_sparing(step))
                    self.assertEqual(plain_of(step), plain_of(term))

    def test_a_term_without_a_kind_comes_to_a_plain_one(self):
        term = of(fn("s", of(bound(0), MARY)), SAME)
        with self.assertRaises(NoKind):
            kind_of([("mary", "n")], term)
        self.assertEqual(plain_of(term), MARY)

    def test_each_list_of_steps(self):
        for pairs, kind, term in sown(range(200), 6):
            steps = steps_of(term)
            self.assertEqual(steps[0], term)
            for step, after in zip(steps, steps[1:]):
                self.assertEqual(after, done_at(step, places(step)[0]))
            self.assertEqual(places(steps[-1]), [])
            self.assertEqual(plain_of(term), steps[-1])
            for step in steps:
                self.assertIs(is_plain_term(step), step == steps[-1])

    def test_deep_and_large_terms(self):
        chain = nested(133, MARY, lambda part: of(SAME, part))
        self.assertEqual(size_of(chain), 400)
        steps = steps_of(chain)
        self.assertEqual([size_of(step) for step in steps], list(range(400, 0, -3)))
        self.assertEqual(plain_of(chain), MARY)
        deep = nested(147, of(SAME, of(SAME, bound(146))), lambda term: fn("n", term))
        self.assertEqual(depth_of(deep), 150)
        self.assertEqual(plain_of(deep), nested(147, bound(146), lambda term: fn("n", term)))
        dropping = nested(75, JOHN, lambda part: of(fn("n", fn("n", part)), MARY))
        self.assertEqual(len(steps_of(dropping)), 76)
        self.assertEqual(plain_of(dropping), nested(75, JOHN, lambda part: fn("n", part)))

    def test_the_list_is_new_and_the_asker_s_own_and_nothing_is_changed(self):
        term = of(SAME, of(SAME, MARY))
        before = copy.deepcopy(term)
        first = steps_of(term)
        self.assertIsInstance(first, list)
        first.clear()
        self.assertEqual(len(steps_of(term)), 3)
        self.assertEqual(term, before)


if __name__ == "__main__":
    unittest.main()
