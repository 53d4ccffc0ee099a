"""Books: entries of told values that are put, changed, struck and undone, and what they tell for a bound."""

from itertools import combinations

from withinrim.answers import fits_along, one_for, values_told
from withinrim.data import MOST_AT_PLACE, MOST_VALUES, need_place
from withinrim.errors import Alike, InvalidName, InvalidValues, NotNow, TooMany
from withinrim.numbers import is_number, need_bound, need_number
from withinrim.steps import walk, word_of

MOST_LETTERS = 8
LETTERS = "abcdefghijklmnopqrstuvwxyz"


def is_name(value):
    """Whether it, whatever it is, is a NAME."""
    if not isinstance(value, str) or len(value) < 1 or len(value) > MOST_LETTERS:
        return False
    return all(each in LETTERS for each in value)


def need_name(given):
    """Refuse what is no NAME."""
    if not is_name(given):
        raise InvalidName(given)


def need_values(given):
    """Refuse what is no tuple of 1 to 3 NUMBERs."""
    if not isinstance(given, tuple) or len(given) < 1 or len(given) > MOST_AT_PLACE:
        raise InvalidValues(None)
    for index, each in enumerate(given):
        if not is_number(each):
            raise InvalidValues(index)


def need_room(entries):
    """Refuse more VALUES than may stand; each entry has one, so there are no more entries either."""
    if sum(len(values) for _, _, values in entries) > MOST_VALUES:
        raise TooMany()


def has_name(entries, name):
    """Whether an entry has the NAME."""
    return any(each[0] == name for each in entries)


def data_among(entries):
    """The DATA of entries."""
    return tuple((place, values) for _, place, values in entries)


def standing_among(entries, bound):
    """The standing of the DATA of entries."""
    return word_of(walk(data_among(entries), bound)[1], bound)


def without(entries, name):
    """The entries but the one with the NAME."""
    return tuple(each for each in entries if each[0] != name)


def least_clashes(entries, bound):
    """The least clashes of entries, as Python compares them among those of one size."""
    found = []
    for many in range(1, len(entries) + 1):
        lots = []
        for indexes in combinations(range(len(entries)), many):
            names = tuple(entries[at][0] for at in indexes)
            if any(all(name in names for name in each) for each in found):
                continue
            if standing_among([entries[at] for at in indexes], bound) == "none":
                lots.append(names)
        found = found + sorted(lots)
    return tuple(found)


class Book:
    """A book of entries (NAME, PLACE, VALUES) for a bound."""

    def __init__(self, bound=(1, 1)):
        need_bound(bound)
        self._bound = bound
        self._entries = ()
        self._past = []

    def _become(self, entries):
        """Let these entries stand, those that stood till now to be undone to."""
        self._past.append(self._entries)
        self._entries = entries

    def put(self, name, place, values):
        """Put a new entry last."""
        need_name(name)
        need_place(place)
        need_values(values)
        if any(each[0] == name or each[1] == place for each in self._entries):
            raise Alike()
        entries = self._entries + ((name, place, values),)
        need_room(entries)
        self._become(entries)

    def change(self, name, values):
        """Give an entry these VALUES."""
        need_name(name)
        need_values(values)
        if not has_name(self._entries, name):
            raise NotNow()
        entries = tuple((each[0], each[1], values if each[0] == name else each[2]) for each in self._entries)
        need_room(entries)
        self._become(entries)

    def strike(self, name):
        """Let an entry go."""
        need_name(name)
        if not has_name(self._entries, name):
            raise NotNow()
        self._become(without(self._entries, name))

    def undo(self):
        """Let the entries be as ahead of the last deed that is not undone; whether there was one."""
        if not self._past:
            return False
        self._entries = self._past.pop()
        return True

    def entries(self):
        """The entries, in the order in which they were put."""
        return self._entries

    def data(self):
        """The DATA of the entries."""
        return data_among(self._entries)

    def bound(self):
        """The bound."""
        return self._bound

    def standing(self):
        """The standing of the DATA for the bound."""
        return standing_among(self._entries, self._bound)

    def rank(self):
        """The rank of the table of the DATA; None for the standing "none"."""
        pairs, left = walk(self.data(), self._bound)
        # Each step takes one from the rank, and what is left with the standing "one" is a table of noughts.
        return None if word_of(left, self._bound) == "none" else len(pairs)

    def the_one(self):
        """The one QUOTIENT; None unless the standing is "one"."""
        return one_for(self.data(), self._bound)

    def values_at(self, place):
        """(CENTRE, SQUARE) of the closed disc of the values at the place; None for the standing "none"."""
        need_place(place)
        return values_told(self.data(), place, self._bound)

    def goes_along(self, place, number):
        """Whether some series up to the bound has the DATA and the number at the place."""
        need_place(place)
        need_number(number)
        return fits_along(self.data(), place, number, self._bound)

    def clashes(self):
        """All least clashes, by how many names they have, then as Python compares them."""
        return least_clashes(self._entries, self._bound)

    def idle(self):
        """The names without whose entries the standing is "one", too."""
        if self.standing() != "one":
            raise NotNow()
        return tuple(
            name for name, _, _ in self._entries if standing_among(without(self._entries, name), self._bound) == "one"
        )

    def twin(self):
        """A book with the same bound and entries, and the same to undo."""
        other = Book(self._bound)
        other._entries = self._entries
        other._past = list(self._past)
        return other
