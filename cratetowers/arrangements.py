"""Arrangements of the crates of a yard, and single moves."""

from cratetowers.errors import InvalidArrangement, InvalidCount, InvalidMove
from cratetowers.yards import COLUMNS, PLACES, check_place, check_yard, is_integer_within, is_place

_PLACE_SIGNS = "abc"


def is_arrangement(yard, value):
    """Tell whether any value is an arrangement of a yard."""
    check_yard(yard)
    return (
        isinstance(value, str)
        and len(value) == len(yard)
        and value.strip(_PLACE_SIGNS) == ""
    )


def check_arrangement(yard, arrangement):
    """Raise InvalidYard, and InvalidArrangement for any value that is not an arrangement."""
    if not is_arrangement(yard, arrangement):
        raise InvalidArrangement(arrangement)


def check_both(yard, start, goal):
    """Raise InvalidYard, and InvalidArrangement for the start and then for the goal."""
    check_arrangement(yard, start)
    check_arrangement(yard, goal)


def tower(yard, place):
    """Return the arrangement with all crates on one place."""
    check_yard(yard)
    check_place(place)
    return place * len(yard)


def how_many_arrangements(yard):
    """Return the number of all arrangements of a yard."""
    many = 1
    for _ in range(len(yard)):
        many = many * len(PLACES)
    return many


def number_of(yard, arrangement):
    """Return how many arrangements come ahead of one."""
    check_arrangement(yard, arrangement)
    number = 0
    for place in arrangement:
        number = number * len(PLACES) + PLACES.index(place)
    return number


def arrangement_at(yard, number):
    """Return the arrangement ahead of which so many others come."""
    check_yard(yard)
    if not is_integer_within(number, 0, how_many_arrangements(yard) - 1):
        raise InvalidCount(number)
    arrangement = ""
    left = number
    for _ in range(len(yard)):
        left, digit = divmod(left, len(PLACES))
        arrangement = PLACES[digit] + arrangement
    return arrangement


def on_place(yard, arrangement, place):
    """Return the crates on a place, with the largest one first."""
    check_arrangement(yard, arrangement)
    check_place(place)
    return [crate for crate, held in enumerate(arrangement) if held == place]


def top_crate(yard, arrangement, place):
    """Return the smallest crate on a place, or None if there is none."""
    crates = on_place(yard, arrangement, place)
    return crates[-1] if crates else None


def is_crate_and_place(yard, value):
    """Tell whether any value has the form of a move: a tuple of a crate and a place."""
    return (
        isinstance(value, tuple)
        and len(value) == 2
        and is_integer_within(value[0], 0, len(yard) - 1)
        and is_place(value[1])
    )


def is_allowed(yard, arrangement, move):
    """Tell whether a tuple of a crate and a place is an allowed move in an arrangement."""
    crate, place = move
    held = arrangement[crate]
    # The last sign of a place is its smallest crate: the moved one there, and a larger one or none where it comes.
    if arrangement.rfind(held) != crate or arrangement.rfind(place) >= crate:
        return False
    return yard.price_rows()[crate][COLUMNS[held + place]] is not None


def check_move(yard, arrangement, move):
    """Raise what check_arrangement does, and InvalidMove for all but allowed moves."""
    check_arrangement(yard, arrangement)
    if not (is_crate_and_place(yard, move) and is_allowed(yard, arrangement, move)):
        raise InvalidMove(move)


def allowed(yard, arrangement):
    """Return the ascending list of the moves that are allowed."""
    check_arrangement(yard, arrangement)
    moves = [(crate, place) for crate in range(len(yard)) for place in PLACES]
    return [move for move in moves if is_allowed(yard, arrangement, move)]


def moved(yard, arrangement, move):
    """Return the arrangement behind a move."""
    check_move(yard, arrangement, move)
    crate, place = move
    return arrangement[:crate] + place + arrangement[crate + 1:]


def move_cost(yard, arrangement, move):
    """Return what a move costs."""
    check_move(yard, arrangement, move)
    crate, place = move
    return yard.price_rows()[crate][COLUMNS[arrangement[crate] + place]]


def way_back(yard, arrangement, move):
    """Return the move that would take a move back, be it barred or not."""
    check_move(yard, arrangement, move)
    crate, _ = move
    return (crate, arrangement[crate])
