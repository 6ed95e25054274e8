"""The readings of a table, counted and told by number: all of them, or the plain ones alone."""

from slashwise.errors import NoNumber
from slashwise.forms import show_form


def key_of(i, j, form):
    """A key for a form of a stretch; forms may be deeper than a key, so their texts stand for them."""
    return (i, j, show_form(form))


class Tally:
    """How many readings each form of a table has, by its ways and by the sign at their top ("word" for a word).

    Where the plain ones alone are counted, a sign is barred from the top of a reading that could be turned with it.
    """

    def __init__(self, table, size, plain):
        self.size = size
        self.plain = plain
        self.shares = {}
        self.tops = {}
        for i, j, form, ways in table:
            self.enter(i, j, form, ways)

    def enter(self, i, j, form, ways):
        """Take a tuple of the table in, behind all those of shorter stretches."""
        shares = [(way, self.many_by_way(i, j, way)) for way in ways]
        tops = {} if ways else {"word": 1}
        for way, many in shares:
            tops[way[0]] = tops.get(way[0], 0) + many
        self.shares[key_of(i, j, form)] = shares
        self.tops[key_of(i, j, form)] = tops

    def barred_left(self, sign):
        """The sign that is barred from the top of the left one below this sign, or None."""
        return ">>" if self.plain and sign in (">", ">>") else None

    def barred_right(self, sign):
        """The sign that is barred from the top of the right one below this sign, or None."""
        return "<<" if self.plain and sign in ("<", "<<") else None

    def many(self, i, j, form, barred=None):
        """How many readings a stretch has to a form, without those whose top has the barred sign."""
        tops = self.tops.get(key_of(i, j, form), {})
        return sum([tops[sign] for sign in tops if sign != barred])

    def many_by_way(self, i, j, way):
        """How many readings a stretch has by a way."""
        sign, k, left, right = way
        return self.many(i, k, left, self.barred_left(sign)) * self.many(k, j, right, self.barred_right(sign))

    def many_ahead(self, i, j, form, way):
        """How many readings a stretch has to a form by the ways ahead of this one."""
        ahead = 0
        for own, many in self.shares[key_of(i, j, form)]:
            if own == way:
                break
            ahead += many
        return ahead

    def many_of_whole(self, form):
        """How many readings the whole sentence has to a form."""
        return self.many(0, self.size, form)

    def reading_of_whole(self, form, number):
        """The reading of the whole sentence to a form at a number, or NoNumber."""
        count = self.many_of_whole(form)
        if number < 0 or number >= count:
            raise NoNumber(number, count)
        return self.reading(0, self.size, form, number)

    def reading(self, i, j, form, number, barred=None):
        """The reading of a stretch to a form at a number below their count."""
        rest = number
        for way, many in self.shares[key_of(i, j, form)]:
            if way[0] == barred:
                continue
            if rest < many:
                return self.reading_by_way(i, j, way, rest)
            rest -= many
        return ("word", i, form)

    def reading_by_way(self, i, j, way, number):
        """The reading of a stretch at a number below the count of this way alone."""
        sign, k, left, right = way
        first, second = divmod(number, self.many(k, j, right, self.barred_right(sign)))
        left_one = self.reading(i, k, left, first, self.barred_left(sign))
        right_one = self.reading(k, j, right, second, self.barred_right(sign))
        return (sign, left_one, right_one)
