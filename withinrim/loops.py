"""Loops of a process and a controller: the loop row, what is left and echoed, and the controllers of a plant."""

from withinrim.data import has_values
from withinrim.errors import InvalidQuotient, NotNow
from withinrim.numbers import need_number
from withinrim.plain import NOUGHT, UNIT, less, trimmed
from withinrim.plants import need_plant, quotient_in
from withinrim.quotients import brought_down, is_quotient, need_quotient
from withinrim.rootcounts import closed_count
from withinrim.rows import difference, product_of, sum_of

LEFT = "left"


def is_process(value):
    """Whether it, whatever it is, is a QUOTIENT that is 0 at 0."""
    return is_quotient(value) and value[0][:1] in ((), (NOUGHT,))


def need_process(given):
    """Refuse what is no QUOTIENT that is 0 at 0."""
    if not is_process(given):
        raise InvalidQuotient(given)


def row_in_loop(process, controller):
    """The loop row a c + b d, not checked."""
    return sum_of(product_of(process[0], controller[0]), product_of(process[1], controller[1]))


def unsteady_count(process, controller):
    """How many roots the loop row has in the closed disc, not checked."""
    return closed_count(row_in_loop(process, controller))


def left_in(process, controller):
    """What is left, not checked."""
    return brought_down(product_of(process[1], controller[1]), row_in_loop(process, controller))


def echo_in(process, controller):
    """What is echoed, not checked."""
    return brought_down(product_of(process[0], controller[0]), row_in_loop(process, controller))


def kept_in(process, controller, kind):
    """What is left or echoed, by the kind, not checked."""
    return left_in(process, controller) if kind == LEFT else echo_in(process, controller)


def rest_to_one(quotient):
    """1 less a QUOTIENT: what is echoed by what is left, and back."""
    return (difference(quotient[1], quotient[0]), quotient[1])


def data_left(plant):
    """The DATA of what a controller that steadies the loop of a plant leaves: 1, 0, 0 at ZEROS, 0, 0, 0 at POLES."""
    zeros, poles, _ = plant
    first = tuple((place, (UNIT, NOUGHT, NOUGHT)[:many]) for place, many in zeros)
    return first + tuple((place, (NOUGHT,) * many) for place, many in poles)


def data_echoed(plant):
    """The DATA of what such a controller's loop echoes: 0, 0, 0 at ZEROS, 1, 0, 0 at POLES."""
    zeros, poles, _ = plant
    first = tuple((place, (NOUGHT,) * many) for place, many in zeros)
    return first + tuple((place, (UNIT, NOUGHT, NOUGHT)[:many]) for place, many in poles)


def leaving(plant, quotient):
    """The controller (1 - Q) / (p Q) of what is left, Q, in a loop of the plant that is steadied, not checked."""
    top, under = quotient_in(plant)
    left, whole = quotient
    return brought_down(product_of(difference(whole, left), under), product_of(top, left))


def mixed(quotient, other, number):
    """(1 - x) times a QUOTIENT and x times another one together, x being the NUMBER, not checked."""
    (top, under), (above, below) = quotient, other
    one = product_of(product_of(trimmed((less(UNIT, number),)), top), below)
    two = product_of(product_of(trimmed((number,)), above), under)
    return brought_down(sum_of(one, two), product_of(under, below))


def loop_row(process, controller):
    """The loop row a c + b d."""
    need_process(process)
    need_quotient(controller)
    return row_in_loop(process, controller)


def is_steadied(process, controller):
    """Whether the loop row has no root in the closed disc."""
    need_process(process)
    need_quotient(controller)
    return unsteady_count(process, controller) == 0


def left_of(process, controller):
    """Q = 1 / (1 + p k), what is left of a disturbance, steadied or not."""
    need_process(process)
    need_quotient(controller)
    return left_in(process, controller)


def echo_of(process, controller):
    """T = 1 - Q, what the process echoes of a disturbance, steadied or not."""
    need_process(process)
    need_quotient(controller)
    return echo_in(process, controller)


def controller_of(plant, quotient):
    """The controller that steadies the plant's loop and leaves the QUOTIENT; None if there is none."""
    need_plant(plant)
    need_quotient(quotient)
    if closed_count(quotient[1]) > 0 or not has_values(data_left(plant), quotient):
        return None
    return leaving(plant, quotient)


def blended(plant, controller, other_controller, number):
    """The controller that leaves (1 - x) Q + x H, x being the number, Q and H what the two controllers leave."""
    need_plant(plant)
    need_quotient(controller)
    need_quotient(other_controller)
    need_number(number)
    process = quotient_in(plant)
    if unsteady_count(process, controller) + unsteady_count(process, other_controller) > 0:
        raise NotNow()
    left, other = left_in(process, controller), left_in(process, other_controller)
    return leaving(plant, mixed(left, other, number))
