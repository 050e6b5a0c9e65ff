"""Places, ways, prices and yards."""

from cratetowers.errors import (
    InvalidCount,
    InvalidCrate,
    InvalidPlace,
    InvalidPrice,
    InvalidText,
    InvalidWay,
    InvalidYard,
)
from cratetowers.lines import THIRDS, reckoning_of

PLACES = ("a", "b", "c")
WAYS = ("ab", "ac", "ba", "bc", "ca", "cb")
COLUMNS = {"ab": 0, "ac": 1, "ba": 2, "bc": 3, "ca": 4, "cb": 5}
MOST_CRATES = 60
_DIGITS = "0123456789"
_BAR = "-"


def is_place(value):
    """Tell whether any value is a place."""
    return isinstance(value, str) and value in PLACES


def is_way(value):
    """Tell whether any value is a way."""
    return isinstance(value, str) and value in WAYS


def is_price(value):
    """Tell whether any value is an integer above 0."""
    return is_integer(value) and value > 0


def is_integer(value):
    """Tell whether any value is an integer; True and False are none."""
    return isinstance(value, int) and not isinstance(value, bool)


def is_integer_within(value, low, high):
    """Tell whether any value is an integer from low to high."""
    return is_integer(value) and low <= value <= high


def is_numeral(word):
    """Tell whether a string is an integer from 0 on in decimal notation without needless signs."""
    # isdigit also takes digits of other scripts, of which no numeral is made.
    return word != "" and word.strip(_DIGITS) == "" and (word[0] != "0" or word == "0")


def third(way):
    """Return the place that is not in a way."""
    check_way(way)
    return THIRDS[way]


def check_place(place):
    """Raise InvalidPlace for any value that is not a place."""
    if not is_place(place):
        raise InvalidPlace(place)


def check_way(way):
    """Raise InvalidWay for any value that is not a way."""
    if not is_way(way):
        raise InvalidWay(way)


def check_yard(yard):
    """Raise InvalidYard for any value that is not a Yard."""
    if not isinstance(yard, Yard):
        raise InvalidYard(yard)


def check_price_or_bar(price):
    """Raise InvalidPrice for any value that is neither an integer above 0 nor None."""
    if price is not None and not is_price(price):
        raise InvalidPrice(price)


def check_crate(yard, crate):
    """Raise InvalidCrate for any value that is not the number of a crate of a yard."""
    if not is_integer_within(crate, 0, len(yard) - 1):
        raise InvalidCrate(crate)


class Yard:
    """The prices of one to sixty crates for the six ways; it never changes."""

    def __init__(self, rows):
        if not _are_rows(rows):
            raise InvalidYard(rows)
        # Tuples, so that no list that a caller holds is part of the yard.
        self._rows = tuple([tuple(row) for row in rows])
        self._reckoning = None

    @classmethod
    def read(cls, text):
        """Return the yard with a text."""
        if not _is_yard_text(text):
            raise InvalidText(text)
        return cls([[_price_of(word) for word in line.split(" ")] for line in text.split("\n")])

    @classmethod
    def even(cls, count, price):
        """Return the yard of so many crates with one price for all ways of all."""
        if not is_integer_within(count, 1, MOST_CRATES):
            raise InvalidCount(count)
        if not is_price(price):
            raise InvalidPrice(price)
        return cls([[price] * len(WAYS)] * count)

    def __len__(self):
        return len(self._rows)

    def __eq__(self, other):
        return isinstance(other, Yard) and self._rows == other._rows

    def __str__(self):
        return "\n".join([" ".join([_price_text(price) for price in row]) for row in self._rows])

    def rows(self):
        """Return the list of the lists of prices, None where a way is barred."""
        return [list(row) for row in self._rows]

    def price_rows(self):
        """Return the rows as tuples, which nobody can change."""
        return self._rows

    def reckoning(self):
        """Return the least costs from tower to tower and the prices that they are made of, as numbers."""
        # Callers ask for many costs of one yard, so this is worked out once, but not before it is asked for.
        if self._reckoning is None:
            self._reckoning = reckoning_of(self._rows)
        return self._reckoning

    def price(self, crate, way):
        """Return the price of a crate for a way, or None if it is barred."""
        check_crate(self, crate)
        check_way(way)
        return self._rows[crate][COLUMNS[way]]

    def with_price(self, crate, way, price):
        """Return the yard with another price, or with a bar if the price is None."""
        check_crate(self, crate)
        check_way(way)
        check_price_or_bar(price)
        rows = self.rows()
        rows[crate][COLUMNS[way]] = price
        return Yard(rows)

    def smallest(self, count):
        """Return the yard of the so many smallest crates."""
        if not is_integer_within(count, 1, len(self)):
            raise InvalidCount(count)
        return Yard(self._rows[len(self) - count:])

    def backwards(self):
        """Return the yard in which each way has the price of the way back."""
        return self._with_prices_of([way[::-1] for way in WAYS])

    def renamed(self, places):
        """Return the yard in which a, b and c have the three places of a string as names."""
        if not _is_place_order(places):
            raise InvalidPlace(places)
        old_names = dict(zip(places, PLACES))
        return self._with_prices_of([old_names[way[0]] + old_names[way[1]] for way in WAYS])

    def _with_prices_of(self, ways):
        """Return the yard in which the six ways, in their order, have the prices of these."""
        columns = [COLUMNS[way] for way in ways]
        return Yard([[row[column] for column in columns] for row in self._rows])


def _are_rows(value):
    """Tell whether any value is a list of the prices of 1 to 60 crates."""
    return (
        isinstance(value, (list, tuple))
        and 1 <= len(value) <= MOST_CRATES
        and all([_is_price_row(row) for row in value])
    )


def _is_price_row(value):
    """Tell whether any value is a list of the prices of a crate for the six ways."""
    return (
        isinstance(value, (list, tuple))
        and len(value) == len(WAYS)
        and all([price is None or is_price(price) for price in value])
    )


def _is_place_order(value):
    """Tell whether any value is a string of the three places in some order."""
    return isinstance(value, str) and sorted(value) == list(PLACES)


def _is_yard_text(value):
    """Tell whether any value is the text of a yard."""
    if not isinstance(value, str):
        return False
    lines = value.split("\n")
    return len(lines) <= MOST_CRATES and all([_is_line(line) for line in lines])


def _is_line(line):
    """Tell whether a string is the line of a crate in the text of a yard."""
    words = line.split(" ")
    return len(words) == len(WAYS) and all([_is_price_text(word) for word in words])


def _is_price_text(word):
    """Tell whether a string is a price in decimal notation, or stands for a bar."""
    return word == _BAR or (is_numeral(word) and word != "0")


def _price_text(price):
    """Return a price in decimal notation, or the sign of a bar for None."""
    return _BAR if price is None else str(price)


def _price_of(word):
    """Return the price, or None, that a word of the text of a yard stands for."""
    return None if word == _BAR else int(word)
