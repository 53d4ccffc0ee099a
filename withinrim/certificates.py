"""Papers for claims that are true."""

from math import isqrt

from withinrim.answers import led_by, one_for, some_for
from withinrim.bounds import controller_for, data_in, does_keep, keeper
from withinrim.claims import need_claim, opposite_of
from withinrim.data import data_table, first_value, has_place, has_values
from withinrim.helds import above_in, keeps_to
from withinrim.loops import kept_in, unsteady_count
from withinrim.plain import UNIT, number_from
from withinrim.quotients import coefficients_at
from withinrim.squares import below_in, null_mixes, squares_of
from withinrim.steps import rows_along, walk
from withinrim.tames import held_pairs, table_for_tame, tame_behind

# Each function tells a paper for a claim, not checked, with its word, or None if the claim is not true.


def small_number(bound):
    """A NUMBER above 0 whose size squared is below the bound."""
    n, m = bound
    return number_from(1, 0, isqrt(m // n) + 1)


def with_word(word, paper):
    """The pair of the word and a paper; None for None."""
    return None if paper is None else (word, paper)


def first_missed(data, quotient):
    """The index of the first pair whose VALUES the QUOTIENT has not; None if it has DATA."""
    for index, (place, values) in enumerate(data):
        if coefficients_at(quotient, place, len(values)) != values:
            return index
    return None


def paper_up_to(claim):
    """For "up to"."""
    _, quotient, bound = claim
    return () if keeps_to(quotient, bound) else None


def paper_above(claim):
    """For "above"."""
    _, quotient, bound = claim
    return above_in(quotient, bound)


def paper_some(claim):
    """For "some"."""
    _, data, bound = claim
    return some_for(data, bound)


def paper_none(claim):
    """For "none"."""
    _, data, bound = claim
    return below_in(data_table(data, bound))


def paper_one(claim):
    """For "one"."""
    _, data, bound = claim
    found = one_for(data, bound)
    # With just one the rank is below N, so there are null mixes.
    return None if found is None else (found, null_mixes(data_table(data, bound))[0])


def paper_many(claim):
    """For "many"."""
    _, data, bound = claim
    pairs, left = walk(data, bound)
    if left:
        return None
    rows = rows_along(pairs, bound)
    return tuple(led_by(rows, (free, (UNIT,))) for free in ((), (small_number(bound),)))


def paper_not_one(claim):
    """For "not one"."""
    found = paper_none(claim)
    return with_word("many", paper_many(claim)) if found is None else ("none", found)


def paper_not_many(claim):
    """For "not many"."""
    found = paper_none(claim)
    return with_word("one", paper_one(claim)) if found is None else ("none", found)


def paper_answer(claim):
    """For "answer"."""
    _, data, bound, quotient = claim
    return () if has_values(data, quotient) and keeps_to(quotient, bound) else None


def paper_no_answer(claim):
    """For "no answer"."""
    _, data, bound, quotient = claim
    missed = first_missed(data, quotient)
    return with_word("above", above_in(quotient, bound)) if missed is None else ("misses", missed)


def paper_value(claim):
    """For "value"."""
    _, data, bound, place, number = claim
    first = first_value(data, place)
    if first is None:
        return some_for(data + ((place, (number,)),), bound)
    return some_for(data, bound) if first == number else None


def paper_no_value(claim):
    """For "no value"."""
    _, data, bound, place, number = claim
    if not has_place(data, place):
        return with_word("more", below_in(data_table(data + ((place, (number,)),), bound)))
    for index, (told, values) in enumerate(data):
        if told == place and values[0] != number:
            return ("told", index)
    return with_word("none", below_in(data_table(data, bound)))


def paper_nonnegative(claim):
    """For "nonnegative"."""
    return squares_of(claim[1])


def paper_below(claim):
    """For "below"."""
    return below_in(claim[1])


def paper_tame(claim):
    """For "tame"."""
    data = claim[1]
    if any(values[0][0][0] < 0 for _, values in data):
        return None
    found = some_for(held_pairs(data), (1, 1))
    return None if found is None else tame_behind(found)


def paper_not_tame(claim):
    """For "not tame"."""
    return below_in(table_for_tame(claim[1]))


def paper_steadied(claim):
    """For "steadied"."""
    _, process, controller = claim
    return () if unsteady_count(process, controller) == 0 else None


def paper_not_steadied(claim):
    """For "not steadied"."""
    _, process, controller = claim
    many = unsteady_count(process, controller)
    return many if many > 0 else None


def paper_keeps(claim):
    """For "keeps"."""
    _, process, controller, kind, bound = claim
    return () if does_keep(process, controller, kind, bound) else None


def paper_fails(claim):
    """For "fails"."""
    _, process, controller, kind, bound = claim
    many = unsteady_count(process, controller)
    if many > 0:
        return ("loop", many)
    return with_word("above", above_in(kept_in(process, controller, kind), bound))


def paper_kept(claim):
    """For "kept"."""
    _, plant, kind, bound = claim
    found = keeper(plant, kind, bound)
    return None if found is None else controller_for(plant, kind, found)


def paper_not_kept(claim):
    """For "not kept"."""
    _, plant, kind, bound = claim
    return below_in(data_table(data_in(plant, kind), bound))


PAPERS = {
    "up to": paper_up_to, "above": paper_above, "some": paper_some, "none": paper_none, "one": paper_one,
    "not one": paper_not_one, "many": paper_many, "not many": paper_not_many, "answer": paper_answer,
    "no answer": paper_no_answer, "value": paper_value, "no value": paper_no_value, "nonnegative": paper_nonnegative,
    "below": paper_below, "tame": paper_tame, "not tame": paper_not_tame, "steadied": paper_steadied,
    "not steadied": paper_not_steadied, "keeps": paper_keeps, "fails": paper_fails, "kept": paper_kept,
    "not kept": paper_not_kept,
}


def paper_of(claim):
    """A paper for a claim, not checked; None if it is not true."""
    maker = PAPERS[claim[0]]
    return maker(claim)


def paper_for(claim):
    """A paper for the claim; None if it is not true."""
    need_claim(claim)
    return paper_of(claim)


def settled(claim):
    """The claim that is true, this one or its opposite, and a paper for it."""
    need_claim(claim)
    paper = paper_of(claim)
    if paper is not None:
        return (claim, paper)
    other = opposite_of(claim)
    return (other, paper_of(other))
