"""Plants: told zeros and poles in the disc with a REST that has none there, and the QUOTIENT that they make."""

from withinrim.data import has_place, is_place
from withinrim.errors import InvalidPlant
from withinrim.numbers import is_whole
from withinrim.plain import NOUGHT, UNIT, less, mirror
from withinrim.quotients import brought_down, is_quotient, mirror_quotient
from withinrim.rootcounts import closed_count
from withinrim.rows import product_of

MOST_TIMES = 6


def is_lot_of_pairs(value):
    """Whether it, whatever it is, is a tuple of pairs (PLACE, TIMES), the PLACEs unlike."""
    if not isinstance(value, tuple):
        return False
    for index, each in enumerate(value):
        if not isinstance(each, tuple) or len(each) != 2:
            return False
        place, many = each
        if not is_place(place) or not is_whole(many) or many not in (1, 2, 3):
            return False
        if has_place(value[:index], place):
            return False
    return True


def is_rest(value):
    """Whether it, whatever it is, is a QUOTIENT, TOP not (), without roots in the closed disc, UNDER's neither."""
    return is_quotient(value) and len(value[0]) > 0 and closed_count(value[0]) + closed_count(value[1]) == 0


def wrong_part(value):
    """The index of the first wrong part of a triple; None if it is a plant."""
    zeros, poles, rest = value
    if not is_lot_of_pairs(zeros) or not has_place(zeros, NOUGHT):
        return 0
    if not is_lot_of_pairs(poles) or any(has_place(zeros, place) for place, _ in poles):
        return 1
    if sum(many for _, many in zeros + poles) > MOST_TIMES:
        return 1
    return None if is_rest(rest) else 2


def is_triple(value):
    """Whether it, whatever it is, is a tuple of three."""
    return isinstance(value, tuple) and len(value) == 3


def is_plant(value):
    """Whether it, whatever it is, is a plant."""
    return is_triple(value) and wrong_part(value) is None


def need_plant(given):
    """Refuse what is no plant."""
    if not is_triple(given):
        raise InvalidPlant(None)
    index = wrong_part(given)
    if index is not None:
        raise InvalidPlant(index)


def row_of_pairs(pairs):
    """The ROW of all z - PLACE, each TIMES times."""
    row = (UNIT,)
    for place, many in pairs:
        for _ in range(many):
            row = product_of(row, (less(NOUGHT, place), UNIT))
    return row


def quotient_in(plant):
    """The plant's QUOTIENT, not checked."""
    zeros, poles, rest = plant
    return brought_down(product_of(rest[0], row_of_pairs(zeros)), product_of(rest[1], row_of_pairs(poles)))


def mirror_pairs(pairs):
    """The pairs with all PLACEs mirrored."""
    return tuple((mirror(place), many) for place, many in pairs)


def is_real_in(plant):
    """Whether the plant's QUOTIENT is its own mirrored one, not checked."""
    quotient = quotient_in(plant)
    return quotient == mirror_quotient(quotient)


def quotient_of_plant(plant):
    """The plant's QUOTIENT p: REST times all z - PLACE of ZEROS, over those of POLES."""
    need_plant(plant)
    return quotient_in(plant)


def mirrored_plant(plant):
    """The plant with all NUMBERs mirrored, in the same order."""
    need_plant(plant)
    zeros, poles, rest = plant
    return (mirror_pairs(zeros), mirror_pairs(poles), mirror_quotient(rest))


def is_real_plant(plant):
    """Whether the plant's QUOTIENT is its own mirrored one."""
    need_plant(plant)
    return is_real_in(plant)
