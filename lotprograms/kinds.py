"""Kinds as values: (0,) is flag, (1, L, H) is num L H, as they stand in an answer."""

from lotprograms.faults import Fault

FLAG_SORT = 0
NUM_SORT = 1
FLAG = (0,)

LEAST = -1000
GREATEST = 1000
WIDEST = 63


def num_kind(low, high):
    return (NUM_SORT, low, high)


def sort_of(kind):
    return kind[0]


def low_of(kind):
    return kind[1]


def high_of(kind):
    return kind[2]


def need_sort(kind, sort, place):
    if sort_of(kind) != sort:
        raise Fault(8, place)


def hold_against(kind, wanted, place):
    """The kind found at a place must be of the wanted one's sort, and lie within it."""
    need_sort(kind, sort_of(wanted), place)
    if sort_of(kind) == NUM_SORT and (low_of(kind) < low_of(wanted) or high_of(kind) > high_of(wanted)):
        raise Fault(14, place)


def bounded_num(low, high):
    """The kind from one number's token to another's, both written down."""
    if low.number < LEAST or low.number > GREATEST:
        raise Fault(7, low.place)
    if high.number < low.number or high.number > GREATEST or high.number - low.number > WIDEST:
        raise Fault(7, high.place)
    return num_kind(low.number, high.number)


def fitting_num(low, high, place):
    """The kind from low to high, found out for the expression at a place."""
    if low < LEAST or high > GREATEST or high - low > WIDEST:
        raise Fault(9, place)
    return num_kind(low, high)
