"""Rows of moves, made one after the other."""

from cratetowers.arrangements import check_arrangement, is_allowed, is_crate_and_place, move_cost, moved, way_back
from cratetowers.errors import InvalidCount, InvalidRow, NotAllowed
from cratetowers.yards import is_integer_within

MOST_MOVES = 1000


def is_row(yard, start, value):
    """Tell whether any value is a row of at most 1000 moves from an arrangement on."""
    check_arrangement(yard, start)
    return _is_move_list(yard, value) and _first_refused(yard, start, value) is None


def first_bad(yard, start, row):
    """Return the index of the first move that is not allowed in its moment, or None."""
    check_arrangement(yard, start)
    if not _is_move_list(yard, row):
        raise InvalidRow(row)
    return _first_refused(yard, start, row)


def behind(yard, start, row):
    """Return the arrangement to which a row leads."""
    return all_behind(yard, start, row)[-1]


def all_behind(yard, start, row):
    """Return the list of all arrangements on the way, the start included."""
    _check_row(yard, start, row)
    return _arrangements(yard, start, row)


def row_cost(yard, start, row):
    """Return what a row costs."""
    arrangements = all_behind(yard, start, row)
    return sum([move_cost(yard, here, move) for here, move in zip(arrangements, row)])


def row_crates(yard, start, row):
    """Return, for each crate, how often it moves in a row."""
    _check_row(yard, start, row)
    often = [0] * len(yard)
    for crate, _ in row:
        often[crate] += 1
    return often


def row_of_largest(yard, start, row, count):
    """Return the moves of a row that the so many largest crates make."""
    _check_row(yard, start, row)
    if not is_integer_within(count, 0, len(yard)):
        raise InvalidCount(count)
    return [move for move in row if move[0] < count]


def cut_short(yard, start, row):
    """Return a row without its rings, in which it comes to an arrangement again."""
    arrangements = all_behind(yard, start, row)
    last_times = {arrangement: at for at, arrangement in enumerate(arrangements)}
    kept = []
    at = last_times[start]
    while at < len(row):
        kept.append(row[at])
        at = last_times[arrangements[at + 1]]
    return kept


def row_back(yard, start, row):
    """Return the moves that lead back to the start, from the arrangement behind a row."""
    arrangements = all_behind(yard, start, row)
    moves = [way_back(yard, here, move) for here, move in zip(arrangements, row)]
    return moves[::-1]


def _is_move_list(yard, value):
    """Tell whether any value is a list of at most 1000 tuples of a crate and a place."""
    return (
        isinstance(value, (list, tuple))
        and len(value) <= MOST_MOVES
        and all([is_crate_and_place(yard, move) for move in value])
    )


def _arrangements(yard, start, moves):
    """Return the arrangements from the start on, up to the first move that is not allowed."""
    arrangements = [start]
    for move in moves:
        here = arrangements[-1]
        if not is_allowed(yard, here, move):
            break
        arrangements.append(moved(yard, here, move))
    return arrangements


def _first_refused(yard, start, moves):
    """Return the index of the first move that is not allowed in its moment, or None."""
    made = len(_arrangements(yard, start, moves)) - 1
    return made if made < len(moves) else None


def _check_row(yard, start, row):
    """Raise what first_bad does, and NotAllowed with the index that it tells."""
    index = first_bad(yard, start, row)
    if index is not None:
        raise NotAllowed(index)
