"""Bounds that can be kept: the DATA and the least bound of a loop, and the controllers that keep a bound."""

from withinrim.answers import answer_for, back_from, some_for
from withinrim.data import place_table, value_table
from withinrim.errors import InvalidWord, NotNow
from withinrim.helds import keeps_to
from withinrim.loops import LEFT, data_echoed, data_left, kept_in, leaving, mixed, rest_to_one, unsteady_count
from withinrim.numbers import need_bound
from withinrim.plants import is_real_in, need_plant, quotient_in
from withinrim.quotients import mirror_quotient, need_quotient
from withinrim.steps import walk, word_of

KINDS = ("left", "echo")
HALF = ((1, 2), (0, 1))


def is_kind(value):
    """Whether it, whatever it is, is "left" or "echo"."""
    return isinstance(value, str) and value in KINDS


def need_kind(given):
    """Refuse what is neither "left" nor "echo"."""
    if not is_kind(given):
        raise InvalidWord(given)


def data_in(plant, kind):
    """The loop's DATA, not checked."""
    return data_left(plant) if kind == LEFT else data_echoed(plant)


def does_keep(process, controller, kind, bound):
    """Whether a loop is steadied and what is left, or echoed, up to the bound, not checked."""
    return unsteady_count(process, controller) == 0 and keeps_to(kept_in(process, controller, kind), bound)


def controller_for(plant, kind, quotient):
    """The controller of what is left, or echoed, in a loop of the plant that is steadied, not checked."""
    return leaving(plant, quotient if kind == LEFT else rest_to_one(quotient))


def keeper(plant, kind, bound):
    """What is left, or echoed, by some controller that keeps the bound, not checked; None if none does."""
    return some_for(data_in(plant, kind), bound)


def loop_data(plant, kind):
    """The loop's DATA: what Q ("left") or T ("echo") has at the ZEROS and then the POLES if the loop is steadied."""
    need_plant(plant)
    need_kind(kind)
    return data_in(plant, kind)


def loop_pencil(plant, kind):
    """The pencil whose least is the least bound of the loop."""
    need_plant(plant)
    need_kind(kind)
    data = data_in(plant, kind)
    table = place_table(data)
    return (table, value_table(data, table))


def keeps(plant, controller, kind, bound=(1, 1)):
    """Whether the controller steadies the plant's loop and what is left, or echoed, is up to the bound."""
    need_plant(plant)
    need_quotient(controller)
    need_kind(kind)
    need_bound(bound)
    return does_keep(quotient_in(plant), controller, kind, bound)


def loop_standing(plant, kind, bound=(1, 1)):
    """The standing of the loop's DATA: "many", "one" or "none"."""
    need_plant(plant)
    need_kind(kind)
    need_bound(bound)
    return word_of(walk(data_in(plant, kind), bound)[1], bound)


def some_controller(plant, kind, bound=(1, 1)):
    """Some controller that keeps the bound; None if none does."""
    need_plant(plant)
    need_kind(kind)
    need_bound(bound)
    found = keeper(plant, kind, bound)
    return None if found is None else controller_for(plant, kind, found)


def real_controller(plant, kind, bound=(1, 1)):
    """Some real controller of a real plant that keeps the bound; None if none does."""
    need_plant(plant)
    need_kind(kind)
    need_bound(bound)
    if not is_real_in(plant):
        raise NotNow()
    found = keeper(plant, kind, bound)
    if found is None:
        return None
    # Behind steps at places that are not real the answer need not be its own mirrored one, but half of both is.
    return controller_for(plant, kind, mixed(found, mirror_quotient(found), HALF))


def controller_by(plant, kind, quotient, bound=(1, 1)):
    """The controller of the answer for the QUOTIENT s."""
    need_plant(plant)
    need_kind(kind)
    need_quotient(quotient)
    need_bound(bound)
    return controller_for(plant, kind, answer_for(data_in(plant, kind), quotient, bound))


def told_back_controller(plant, kind, controller, bound=(1, 1)):
    """The s of which it is the controller; None for one that does not keep the bound."""
    need_plant(plant)
    need_kind(kind)
    need_quotient(controller)
    need_bound(bound)
    # What is left, or echoed, tells whether the loop is steadied: just then it is an answer, and up to the bound.
    return back_from(data_in(plant, kind), kept_in(quotient_in(plant), controller, kind), bound)
