"""The checker: which papers it takes for which claims."""

from withinrim.bounds import data_in, does_keep
from withinrim.claims import is_claim
from withinrim.data import data_table, has_place, has_values, is_place
from withinrim.helds import keeps_to
from withinrim.loops import kept_in, unsteady_count
from withinrim.numbers import is_whole
from withinrim.plain import NOUGHT, order, over, size_of
from withinrim.plants import quotient_in
from withinrim.quotients import coefficients_at, is_quotient
from withinrim.rootcounts import closed_count
from withinrim.rows import value_at
from withinrim.squares import do_make
from withinrim.tables import is_numbers, together
from withinrim.tames import is_tame, table_for_tame

# Papers are whatever was passed: so nothing is read of them before it is known to be there.


def is_none(paper):
    """Whether it is ()."""
    return isinstance(paper, tuple) and len(paper) == 0


def is_pair(paper):
    """Whether it is a pair."""
    return isinstance(paper, tuple) and len(paper) == 2


def has_word(paper, word):
    """Whether it is a pair of this word and something."""
    return is_pair(paper) and isinstance(paper[0], str) and paper[0] == word


def is_index(value, many):
    """Whether it is an index of so many things."""
    return is_whole(value) and value >= 0 and value < many


def has_up_to(data, bound, quotient):
    """Whether a QUOTIENT is up to the bound and has DATA."""
    return has_values(data, quotient) and keeps_to(quotient, bound)


def is_below(table, mix):
    """Whether it is a mix that comes out below 0 in a TABLE, be it of seven rows."""
    return is_numbers(mix, len(table)) and together(table, mix, mix)[0][0] < 0


def shows_above(quotient, bound, paper):
    """Whether it shows that the QUOTIENT is not up to the bound."""
    top, under = quotient
    if has_word(paper, "roots"):
        return is_whole(paper[1]) and paper[1] > 0 and paper[1] == closed_count(under)
    if not has_word(paper, "place") or not is_place(paper[1]):
        return False
    below = value_at(under, paper[1])
    return below != NOUGHT and order(size_of(over(value_at(top, paper[1]), below)), bound) > 0


def shows_unsteady(process, controller, paper):
    """Whether it is how many roots the loop row has in the closed disc, more than 0."""
    return is_whole(paper) and paper > 0 and paper == unsteady_count(process, controller)


def takes_up_to(claim, paper):
    """() for what is so."""
    _, quotient, bound = claim
    return is_none(paper) and keeps_to(quotient, bound)


def takes_above(claim, paper):
    """Roots of UNDER, or a PLACE."""
    _, quotient, bound = claim
    return shows_above(quotient, bound, paper)


def takes_some(claim, paper):
    """A QUOTIENT up to the bound that has DATA."""
    _, data, bound = claim
    return is_quotient(paper) and has_up_to(data, bound, paper)


def takes_none(claim, paper):
    """A mix that comes out below 0."""
    _, data, bound = claim
    return is_below(data_table(data, bound), paper)


def takes_one(claim, paper):
    """A paper for "some", and a mix, not nought, that comes out as 0."""
    _, data, bound = claim
    if not is_pair(paper) or not takes_some(claim, paper[0]):
        return False
    table, mix = data_table(data, bound), paper[1]
    if not is_numbers(mix, len(table)) or all(each == NOUGHT for each in mix):
        return False
    return together(table, mix, mix) == NOUGHT


def takes_many(claim, paper):
    """Two unlike papers for "some"."""
    return is_pair(paper) and takes_some(claim, paper[0]) and takes_some(claim, paper[1]) and paper[0] != paper[1]


def takes_not_one(claim, paper):
    """A paper for "none" or "many", behind the word."""
    if has_word(paper, "none"):
        return takes_none(claim, paper[1])
    return has_word(paper, "many") and takes_many(claim, paper[1])


def takes_not_many(claim, paper):
    """A paper for "none" or "one", behind the word."""
    if has_word(paper, "none"):
        return takes_none(claim, paper[1])
    return has_word(paper, "one") and takes_one(claim, paper[1])


def takes_answer(claim, paper):
    """() for what is so."""
    _, data, bound, quotient = claim
    return is_none(paper) and has_up_to(data, bound, quotient)


def takes_no_answer(claim, paper):
    """A paper for "above", or the index of a pair that is missed."""
    _, data, bound, quotient = claim
    if has_word(paper, "above"):
        return shows_above(quotient, bound, paper[1])
    if not has_word(paper, "misses") or not is_index(paper[1], len(data)):
        return False
    place, values = data[paper[1]]
    return coefficients_at(quotient, place, len(values)) != values


def takes_value(claim, paper):
    """A paper for "some" with the value at the place."""
    _, data, bound, place, number = claim
    return is_quotient(paper) and has_values(((place, (number,)),), paper) and has_up_to(data, bound, paper)


def takes_no_value(claim, paper):
    """A paper for "none", the index of a pair that tells otherwise, or a mix for DATA with one more pair."""
    _, data, bound, place, number = claim
    if has_word(paper, "none"):
        return is_below(data_table(data, bound), paper[1])
    if has_word(paper, "told"):
        return is_index(paper[1], len(data)) and data[paper[1]][0] == place and data[paper[1]][1][0] != number
    if not has_word(paper, "more") or has_place(data, place):
        return False
    return is_below(data_table(data + ((place, (number,)),), bound), paper[1])


def takes_nonnegative(claim, paper):
    """Squares with all W above 0 that make the TABLE."""
    return do_make(claim[1], paper) and all(weight[0] > 0 for weight, _ in paper)


def takes_below(claim, paper):
    """A mix that comes out below 0."""
    return is_below(claim[1], paper)


def takes_tame(claim, paper):
    """A tame QUOTIENT that has DATA."""
    return is_tame(paper) and has_values(claim[1], paper)


def takes_not_tame(claim, paper):
    """A mix that comes out below 0 in the tame table."""
    return is_below(table_for_tame(claim[1]), paper)


def takes_steadied(claim, paper):
    """() for what is so."""
    _, process, controller = claim
    return is_none(paper) and unsteady_count(process, controller) == 0


def takes_not_steadied(claim, paper):
    """How many roots the loop row has in the closed disc."""
    _, process, controller = claim
    return shows_unsteady(process, controller, paper)


def takes_keeps(claim, paper):
    """() for what is so."""
    _, process, controller, kind, bound = claim
    return is_none(paper) and does_keep(process, controller, kind, bound)


def takes_fails(claim, paper):
    """A paper for "not steadied", or for "above" and what is left or echoed, steadied or not."""
    _, process, controller, kind, bound = claim
    if has_word(paper, "loop"):
        return shows_unsteady(process, controller, paper[1])
    return has_word(paper, "above") and shows_above(kept_in(process, controller, kind), bound, paper[1])


def takes_kept(claim, paper):
    """A controller that keeps it."""
    _, plant, kind, bound = claim
    return is_quotient(paper) and does_keep(quotient_in(plant), paper, kind, bound)


def takes_not_kept(claim, paper):
    """A paper for "none" and the loop's DATA."""
    _, plant, kind, bound = claim
    return is_below(data_table(data_in(plant, kind), bound), paper)


TAKERS = {
    "up to": takes_up_to, "above": takes_above, "some": takes_some, "none": takes_none, "one": takes_one,
    "not one": takes_not_one, "many": takes_many, "not many": takes_not_many, "answer": takes_answer,
    "no answer": takes_no_answer, "value": takes_value, "no value": takes_no_value, "nonnegative": takes_nonnegative,
    "below": takes_below, "tame": takes_tame, "not tame": takes_not_tame, "steadied": takes_steadied,
    "not steadied": takes_not_steadied, "keeps": takes_keeps, "fails": takes_fails, "kept": takes_kept,
    "not kept": takes_not_kept,
}


def accepts(claim, paper):
    """Whether the first one, whatever it is, is a claim, and the other one, whatever it is, a paper for it."""
    if not is_claim(claim):
        return False
    taker = TAKERS[claim[0]]
    return taker(claim, paper)
