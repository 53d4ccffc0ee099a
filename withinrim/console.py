"""A console over a book: lines of words that put, change, ask and draw, each answered by texts."""

from withinrim.answers import answer_for, back_from, word_with
from withinrim.books import Book, is_name
from withinrim.data import MOST_AT_PLACE, count_of, first_value
from withinrim.errors import Alike, InvalidLine, NotNow, TooMany
from withinrim.helds import keeps_to
from withinrim.pictures import is_count, value_rows
from withinrim.steps import rows_at, walk
from withinrim.texts import (
    fraction_as_text, fraction_in, number_as_text, number_in, pair_as_text, place_in, quotient_as_text,
    quotient_in_text,
)

# What is told behind the first word of a line; "values" stands for 1 to 3 words.
LINES = {
    "bound": ("bound",), "put": ("name", "place", "values"), "change": ("name", "values"), "strike": ("name",),
    "undo": (), "show": (), "standing": (), "clashes": (), "one": (), "at": ("place",), "along": ("place", "value"),
    "answer": ("quotient",), "back": ("quotient",), "draw": ("place", "count"),
}


def read_as(kind, word):
    """What a word tells of a kind; None for a wrong word."""
    if kind == "place":
        return place_in(word)
    if kind in ("value", "values"):
        return number_in(word)
    if kind == "quotient":
        # No text has a blank outside of brackets, so a comma there is refused, too.
        return quotient_in_text(word.replace(",", " "))
    if kind == "name":
        return word if is_name(word) else None
    if kind == "bound":
        found = fraction_in(word)
        return found if found is not None and found[0] > 0 else None
    found = fraction_in(word)
    return found[0] if found is not None and found[1] == 1 and is_count(found[0]) else None


def kinds_in(words):
    """The kinds of the words behind the first one of a line; None for no such line."""
    if not words or words[0] not in LINES:
        return None
    kinds = LINES[words[0]]
    more = len(words) - 1 - len(kinds)
    if more > 0 and more < MOST_AT_PLACE and kinds[-1:] == ("values",):
        return kinds + ("values",) * more
    return kinds if more == 0 else None


def tell_put(book, told):
    """Put a new entry."""
    try:
        book.put(told[0], told[1], tuple(told[2:]))
    except Alike:
        return ("there already",)
    except TooMany:
        return ("too many",)
    return (book.standing(),)


def tell_change(book, told):
    """Change an entry."""
    try:
        book.change(told[0], tuple(told[1:]))
    except NotNow:
        return ("not there",)
    except TooMany:
        return ("too many",)
    return (book.standing(),)


def tell_strike(book, told):
    """Strike an entry."""
    try:
        book.strike(told[0])
    except NotNow:
        return ("not there",)
    return (book.standing(),)


def tell_undo(book, told):
    """Undo the last deed."""
    return (book.standing(),) if book.undo() else ("nothing to undo",)


def tell_show(book, told):
    """All entries."""
    entries = book.entries()
    return tuple(name + " " + pair_as_text(place, values) for name, place, values in entries) or ("no entries",)


def tell_standing(book, told):
    """The standing, with the rank."""
    word, many = book.standing(), str(count_of(book.data()))
    return ("none of " + many,) if word == "none" else (word + ", rank " + str(book.rank()) + " of " + many,)


def tell_clashes(book, told):
    """The least clashes."""
    return tuple(" ".join(names) for names in book.clashes()) or ("no clash",)


def tell_one(book, told):
    """The one."""
    found = book.the_one()
    return ("not one",) if found is None else (quotient_as_text(found),)


def tell_at(book, told):
    """The disc of the values at a place."""
    found = book.values_at(told[0])
    if found is None:
        return ("none",)
    return ("centre " + number_as_text(found[0]) + " square " + fraction_as_text(found[1]),)


def tell_along(book, told):
    """The standing of the entries and a value at a place, both together."""
    place, value = told
    data, bound = book.data(), book.bound()
    first = first_value(data, place)
    if first is not None:
        return (book.standing(),) if value == first else ("none",)
    pairs, left = walk(data, bound)
    return (word_with(rows_at(pairs, place, bound), left, value, bound),)


def tell_answer(book, told):
    """The answer for a QUOTIENT."""
    if book.standing() != "many":
        return ("not many",)
    if not keeps_to(told[0], book.bound()):
        return ("not up to the bound",)
    return (quotient_as_text(answer_for(book.data(), told[0], book.bound())),)


def tell_back(book, told):
    """What a QUOTIENT is the answer for."""
    if book.standing() != "many":
        return ("not many",)
    found = back_from(book.data(), told[0], book.bound())
    return ("no answer",) if found is None else (quotient_as_text(found),)


def tell_draw(book, told):
    """The picture of values."""
    if book.standing() == "none":
        return ("none",)
    return value_rows(book.data(), told[0], told[1], book.bound())


ACTIONS = {
    "put": tell_put, "change": tell_change, "strike": tell_strike, "undo": tell_undo, "show": tell_show,
    "standing": tell_standing, "clashes": tell_clashes, "one": tell_one, "at": tell_at, "along": tell_along,
    "answer": tell_answer, "back": tell_back, "draw": tell_draw,
}


class Console:
    """A console, its book empty and for the bound 1 at first."""

    def __init__(self):
        self._book = Book()

    def say(self, line):
        """The answer to a line, a tuple of texts."""
        if not isinstance(line, str):
            raise InvalidLine(line)
        words = [each for each in line.split(" ") if each]
        kinds = kinds_in(words)
        if kinds is None:
            return ("no such line",)
        told = []
        for at, kind in enumerate(kinds):
            found = read_as(kind, words[at + 1])
            if found is None:
                return ("wrong word " + str(at + 1),)
            told.append(found)
        if words[0] == "bound":
            self._book = Book(told[0])
            return ("bound " + fraction_as_text(told[0]),)
        action = ACTIONS[words[0]]
        return action(self._book, told)
