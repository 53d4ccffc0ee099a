"""Texts of NUMBERs, ROWs, QUOTIENTs and DATA, and how they are read."""

from withinrim.data import MOST_AT_PLACE, MOST_PAIRS, MOST_VALUES, has_place, is_place, need_data
from withinrim.errors import InvalidText
from withinrim.numbers import need_number
from withinrim.plain import ZERO, reduced
from withinrim.quotients import is_quotient, need_quotient
from withinrim.rows import is_row, need_row

MOST_FIGURES = 400


def need_text(given):
    """Refuse what is no text."""
    if not isinstance(given, str):
        raise InvalidText(None, None)


def fraction_as_text(fraction):
    """The text of a fraction, not checked."""
    n, m = fraction
    return str(n) if m == 1 else str(n) + "/" + str(m)


def number_as_text(number):
    """The text of a NUMBER, not checked."""
    a, b = number
    if b == ZERO:
        return fraction_as_text(a)
    ahead = "" if a == ZERO else fraction_as_text(a)
    sign = "+" if a != ZERO and b[0] > 0 else ""
    return ahead + sign + fraction_as_text(b) + "i"


def row_as_text(row):
    """The text of a ROW, not checked."""
    return "[" + " ".join([number_as_text(each) for each in row]) + "]"


def quotient_as_text(quotient):
    """The text of a QUOTIENT, not checked."""
    return row_as_text(quotient[0]) + "/" + row_as_text(quotient[1])


def pair_as_text(place, values):
    """The text of a PLACE and its VALUES, not checked, without a line feed."""
    return number_as_text(place) + ": " + " ".join([number_as_text(each) for each in values])


# What is read is told back and compared, as that alone shows that the text is just the one of it.


def whole_in(text):
    """The whole number of a sign, if any, and up to 400 figures, noughts ahead and all; None if it is none."""
    figures = text.removeprefix("-")
    if len(figures) > MOST_FIGURES or not (figures.isascii() and figures.isdigit()):
        return None
    return int(text)


def fraction_in(text):
    """The fraction of which it is the text; None if it is none."""
    ahead, slash, behind = text.partition("/")
    n, m = whole_in(ahead), whole_in(behind) if slash else 1
    if n is None or m is None or m == 0:
        return None
    found = reduced(n, m)
    return found if fraction_as_text(found) == text else None


def number_in(text):
    """The NUMBER of which it is the text; None if it is none."""
    a, b = ZERO, ZERO
    if text.endswith("i"):
        at = max(text.rfind("+"), text.rfind("-"), 0)
        if at > 0:
            a = fraction_in(text[:at])
        b = fraction_in(text[at:-1].removeprefix("+"))
    else:
        a = fraction_in(text)
    if a is None or b is None:
        return None
    return (a, b) if number_as_text((a, b)) == text else None


def place_in(text):
    """The PLACE of which it is the text; None if it is none."""
    found = number_in(text)
    return found if is_place(found) else None


def row_in(text):
    """The ROW of which it is the text; None if it is none."""
    if not text.startswith("[") or not text.endswith("]"):
        return None
    inner = text[1:-1]
    found = tuple([number_in(each) for each in inner.split(" ")]) if inner else ()
    return found if is_row(found) else None


def quotient_in_text(text):
    """The QUOTIENT of which it is the text; None if it is none."""
    top, _, under = text.partition("]/[")
    found = (row_in(top + "]"), row_in("[" + under))
    return found if is_quotient(found) else None


def number_text(number):
    """The text of the NUMBER."""
    need_number(number)
    return number_as_text(number)


def row_text(row):
    """The text of the ROW."""
    need_row(row)
    return row_as_text(row)


def quotient_text(quotient):
    """The text of the QUOTIENT."""
    need_quotient(quotient)
    return quotient_as_text(quotient)


def data_text(data):
    """The text of the DATA, a line for each pair."""
    need_data(data)
    return "".join([pair_as_text(place, values) + "\n" for place, values in data])


def need_read(found):
    """Refuse a text that was not read as anything."""
    if found is None:
        raise InvalidText(0, 0)


def read_number(text):
    """The NUMBER of which it is the text."""
    need_text(text)
    found = number_in(text)
    need_read(found)
    return found


def read_row(text):
    """The ROW of which it is the text."""
    need_text(text)
    found = row_in(text)
    need_read(found)
    return found


def read_quotient(text):
    """The QUOTIENT of which it is the text."""
    need_text(text)
    found = quotient_in_text(text)
    need_read(found)
    return found


def place_ahead(word):
    """The PLACE of a line's first word, its text with ":" behind it; None if it is none."""
    return place_in(word[:-1]) if word.endswith(":") else None


def wrong_word(words, data, room):
    """The index of the first wrong word in those of a line; None for none.

    Data are the pairs of the lines ahead, room how many VALUES may come yet.
    """
    place = place_ahead(words[0])
    if place is None or len(data) == MOST_PAIRS or has_place(data, place):
        return 0
    for at in range(1, len(words)):
        if at > MOST_AT_PLACE or at > room or number_in(words[at]) is None:
            return at
    return 1 if len(words) == 1 else None


def read_data(text):
    """The DATA of which it is the text."""
    need_text(text)
    *lines, unended = text.split("\n")
    data, room = [], MOST_VALUES
    for at, line in enumerate(lines + [unended]):
        if at == len(lines) and not unended:
            break
        words = line.split(" ")
        wrong = wrong_word(words, data, room)
        if wrong is None and at == len(lines):
            wrong = len(words)
        if wrong is not None:
            raise InvalidText(at, wrong)
        room -= len(words) - 1
        data.append((place_ahead(words[0]), tuple([number_in(each) for each in words[1:]])))
    return tuple(data)
