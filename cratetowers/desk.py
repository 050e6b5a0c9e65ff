"""A desk with a yard and an arrangement, with undo, trials and commands."""

from cratetowers.arrangements import check_arrangement, move_cost, moved
from cratetowers.costs import least, sure_cost
from cratetowers.errors import CratesError, InvalidLine, NothingToRedo, NothingToUndo, NoYard
from cratetowers.ways import Way
from cratetowers.yards import MOST_CRATES, Yard, is_numeral, is_place, is_way

_BAR = "-"
# For each command the kinds of the words behind its own one.
_COMMANDS = {
    "begin": ("PLACES", "PRICE"),
    "price": ("CRATE", "WAY", "PRICE OR BAR"),
    "undo": (),
    "redo": (),
    "move": ("CRATE", "PLACE"),
    "lead": ("PLACES",),
    "cost": ("PLACES",),
    "show": (),
    "paid": (),
    "yard": (),
}


class Desk:
    """At most one yard with an arrangement, and what was paid since both were laid down.

    The three of them are a state, a tuple, or None while there is no yard. States are never changed, so those ahead
    of the changes and behind those that were taken back can be kept in tuples and laid down again.
    """

    def __init__(self):
        self._state = None
        self._earlier = ()
        self._later = ()

    @property
    def undos(self):
        """The number of the changes that can be taken back."""
        return len(self._earlier)

    @property
    def redos(self):
        """The number of the changes that can be made again."""
        return len(self._later)

    def begin(self, yard, arrangement):
        """Lay down a yard and an arrangement of it."""
        check_arrangement(yard, arrangement)
        self._change((yard, arrangement, 0))

    def move(self, crate, place):
        """Make a move and return what it costs."""
        yard, arrangement, paid = self._present()
        step = (crate, place)
        cost = move_cost(yard, arrangement, step)
        self._change((yard, moved(yard, arrangement, step), paid + cost))
        return cost

    def set_price(self, crate, way, price):
        """Change the price of a crate for a way, or set a bar."""
        yard, arrangement, paid = self._present()
        self._change((yard.with_price(crate, way, price), arrangement, paid))

    def lead(self, goal):
        """Make a cheapest row to an arrangement as one change, and return what it costs."""
        yard, arrangement, paid = self._present()
        cost = sure_cost(yard, arrangement, goal)
        self._change((yard, goal, paid + cost))
        return cost

    def follow(self, goal, count):
        """Make the first so many moves of the told row to an arrangement, and return what they cost."""
        yard, arrangement, _ = self._present()
        cost = 0
        for crate, place in Way(yard, arrangement, goal).first(count):
            cost = cost + self.move(crate, place)
        return cost

    def yard(self):
        """Return the present yard."""
        return self._present()[0]

    def arrangement(self):
        """Return the present arrangement."""
        return self._present()[1]

    def paid(self):
        """Return what the moves since the last begin cost that were not taken back."""
        return self._present()[2]

    def undo(self):
        """Take back the last change that was not taken back."""
        if self.undos == 0:
            raise NothingToUndo()
        self._later = (*self._later, self._state)
        self._state = self._earlier[-1]
        self._earlier = self._earlier[:-1]

    def redo(self):
        """Make the change again that was taken back last."""
        if self.redos == 0:
            raise NothingToRedo()
        self._earlier = (*self._earlier, self._state)
        self._state = self._later[-1]
        self._later = self._later[:-1]

    def trial(self, act):
        """Call a function with the desk, and return what it returns; behind it the desk is as before."""
        state, earlier, later = self._state, self._earlier, self._later
        try:
            return act(self)
        finally:
            self._state, self._earlier, self._later = state, earlier, later

    def run(self, line):
        """Carry out a command and return its answer."""
        words = _words_of(line)
        name = words[0]
        if name == "begin":
            self.begin(Yard.even(len(words[1]), int(words[2])), words[1])
        elif name == "price":
            self.set_price(int(words[1]), words[2], None if words[3] == _BAR else int(words[3]))
        elif name == "undo":
            self.undo()
        elif name == "redo":
            self.redo()
        else:
            return self._answer(words)
        return "ok"

    def run_all(self, lines):
        """Carry out a list of commands and return their answers; if one raises, the desk is as before."""
        if not isinstance(lines, (list, tuple)):
            raise InvalidLine(lines)
        state, earlier, later = self._state, self._earlier, self._later
        try:
            return [self.run(line) for line in lines]
        except CratesError:
            self._state, self._earlier, self._later = state, earlier, later
            raise

    def _answer(self, words):
        """Carry out one of the commands that have an answer of their own, and return it."""
        name = words[0]
        if name == "move":
            return str(self.move(int(words[1]), words[2]))
        if name == "lead":
            return str(self.lead(words[1]))
        if name == "cost":
            cost = least(self.yard(), self.arrangement(), words[1])
            return "none" if cost is None else str(cost)
        if name == "show":
            return self.arrangement()
        return str(self.paid() if name == "paid" else self.yard())

    def _present(self):
        """Return the present yard, arrangement and what is paid; raise NoYard if there is none."""
        if self._state is None:
            raise NoYard()
        return self._state

    def _change(self, state):
        """Lay down another state as a change."""
        self._earlier = (*self._earlier, self._state)
        self._later = ()
        self._state = state


def _words_of(line):
    """Return the words of a command; raise InvalidLine for any value that is none."""
    if not isinstance(line, str):
        raise InvalidLine(line)
    words = line.split(" ")
    kinds = _COMMANDS.get(words[0])
    if kinds is None or len(words) != len(kinds) + 1:
        raise InvalidLine(line)
    if not all([_is_word(kind, word) for kind, word in zip(kinds, words[1:])]):
        raise InvalidLine(line)
    return words


def _is_word(kind, word):
    """Tell whether a word of a command is of a kind."""
    if kind == "CRATE":
        return is_numeral(word)
    if kind == "PLACE":
        return is_place(word)
    if kind == "WAY":
        return is_way(word)
    if kind == "PLACES":
        return 1 <= len(word) <= MOST_CRATES and word.strip("abc") == ""
    if kind == "PRICE OR BAR" and word == _BAR:
        return True
    return is_numeral(word) and word != "0"
