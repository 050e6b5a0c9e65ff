"""Rows of moves, made one after the other."""

from cratetowers.arrangements import check_arrangement
from cratetowers.errors import InvalidCount, InvalidRow, NotAllowed
from cratetowers.yards import COLUMNS, PLACES, is_integer_within

MOST_MOVES = 1000


def is_row(yard, start, value):
    """Tell whether any value is a row of at most 1000 moves from an arrangement on."""
    check_arrangement(yard, start)
    return _is_move_list(yard, value) and _first_refused(value, _arrangements(yard, start, value)) is None


def first_bad(yard, start, row):
    """Return the index of the first move that is not allowed in its moment, or None."""
    check_arrangement(yard, start)
    _check_move_list(yard, row)
    return _first_refused(row, _arrangements(yard, start, row))


def behind(yard, start, row):
    """Return the arrangement to which a row leads."""
    return all_behind(yard, start, row)[-1]


def all_behind(yard, start, row):
    """Return the list of all arrangements on the way, the start included."""
    check_arrangement(yard, start)
    _check_move_list(yard, row)
    arrangements = _arrangements(yard, start, row)
    index = _first_refused(row, arrangements)
    if index is not None:
        raise NotAllowed(index)
    return arrangements


def row_cost(yard, start, row):
    """Return what a row costs."""
    arrangements = all_behind(yard, start, row)
    prices = yard.price_rows()
    return sum([prices[crate][COLUMNS[here[crate] + place]] for here, (crate, place) in zip(arrangements, row)])


def row_crates(yard, start, row):
    """Return, for each crate, how often it moves in a row."""
    all_behind(yard, start, row)
    often = [0] * len(yard)
    for crate, _ in row:
        often[crate] += 1
    return often


def row_of_largest(yard, start, row, count):
    """Return the moves of a row that the so many largest crates make."""
    all_behind(yard, start, row)
    if not is_integer_within(count, 0, len(yard)):
        raise InvalidCount(count)
    return [move for move in row if move[0] < count]


def cut_short(yard, start, row):
    """Return a row without its rings, in which it comes to an arrangement again."""
    arrangements = all_behind(yard, start, row)
    last_times = {arrangement: at for at, arrangement in enumerate(arrangements)}
    kept = []
    at = last_times[start]
    while at < len(row):
        kept.append(row[at])
        at = last_times[arrangements[at + 1]]
    return kept


def row_back(yard, start, row):
    """Return the moves that lead back to the start, from the arrangement behind a row."""
    arrangements = all_behind(yard, start, row)
    moves = [(crate, here[crate]) for here, (crate, _) in zip(arrangements, row)]
    return moves[::-1]


def _check_move_list(yard, row):
    """Raise InvalidRow for any value that is not a list of at most 1000 tuples of a crate and a place."""
    if not _is_move_list(yard, row):
        raise InvalidRow(row)


def _is_move_list(yard, value):
    """Tell whether any value is a list of at most 1000 tuples of a crate and a place."""
    if not isinstance(value, (list, tuple)) or len(value) > MOST_MOVES:
        return False
    count = len(yard)
    # Rows are long and asked for often, so a move is judged here without a call.
    return all([
        isinstance(move, tuple)
        and len(move) == 2
        and isinstance(move[0], int)
        and not isinstance(move[0], bool)
        and 0 <= move[0] < count
        and move[1] in PLACES
        for move in value
    ])


def _arrangements(yard, start, moves):
    """Return the arrangements from the start on, up to the first move that is not allowed."""
    prices = yard.price_rows()
    here = start
    arrangements = [here]
    for crate, place in moves:
        held = here[crate]
        # The last sign of a place is its smallest crate: the moved one there, and a larger one or none where it comes.
        if here.rfind(held) != crate or here.rfind(place) >= crate or prices[crate][COLUMNS[held + place]] is None:
            break
        here = here[:crate] + place + here[crate + 1:]
        arrangements.append(here)
    return arrangements


def _first_refused(moves, arrangements):
    """Return the index of the move behind which there is no arrangement, or None if there is none."""
    made = len(arrangements) - 1
    return made if made < len(moves) else None
