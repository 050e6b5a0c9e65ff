"""Tests of the desk: promises 5 to 10, and 141 to 145."""

import random
import unittest

from cratetowers.arrangements import allowed
from cratetowers.costs import least
from cratetowers.desk import Desk
from cratetowers.errors import (
    CratesError, InvalidArrangement, InvalidCount, InvalidCrate, InvalidLine, InvalidMove, InvalidPrice, InvalidWay,
    InvalidYard, NothingToRedo, NothingToUndo, NoWay, NoYard,
)
from cratetowers.rows import behind, row_cost
from cratetowers.ways import Way
from cratetowers.yards import WAYS, Yard
from tests.helpers import RefusalCase, long_yard, no_arrangements, no_yards, odd_values

YARD = Yard([[5, 2, 5, 2, None, 2], [1, 1, 1, 1, 1, 1]])
BARRED = Yard([[None] * 6] * 2)
START60 = "abcacbbacabccba" * 4
GOAL60 = "cabbacacbcbaabc" * 4
NO_PRICES = [0, True, False, -1, -10 ** 79, "", "1", "-", [], [1], (1,), {}, {1: 1}, YARD]
NO_LINES = [
    "", " ", "begin", "begin aa", "begin 3 aa", "begin aa 0", "begin aa 03", "begin aa +3", "begin aa -3", "begin aa -",
    "begin aa 3 ", " begin aa 3", "begin  aa 3", "begin aa  3", "begin aa 3 3", "begin ad 3", "begin aA 3",
    "begin aa 3.0",
    "begin aa 3\n", "begin aa\n3", "begin  3", "begin " + "a" * 61 + " 3", "Begin aa 3", "BEGIN aa 3", "begin aa 1_0",
    "begin aa 0x3", "begin aa a", "begin a,a 3", "begin aa 00", "begin aa --3", "begin aa 3-",
    "price", "price 0", "price 0 ab", "price 0 ab 0", "price 0 ab 07", "price 0 ab +7", "price 0 ab -7",
    "price 0 ab 7 ",
    "price 0 aa 7", "price 0 ba7", "price 00 ab 7", "price -0 ab 7", "price +0 ab 7", "price -1 ab 7", "price 01 ab 7",
    "price a ab 7", "price 0 AB 7", "price 0 abc 7", "price 0 ab --", "price 0 ab None", "price 0 ab - -",
    "price - ab 7",
    "price 0  ab 7", "price 0 ab  7", "price 0 ab 7 7", "price 0 ab\n7", "price  ab 7", "price 0 ab ",
    "undo ", " undo", "undo 1", "undo\n", "Undo", "undo undo", "redo ", "redo 0", "redone", "REDO",
    "move", "move 1", "move 1 b ", "move 01 b", "move -1 b", "move +1 b", "move 1  b", "move 1 B", "move 1 ab",
    "move b 1",
    "move 1 d", "move 1 b b", "move 1b", "move 1 ", "move  b", "move 1 b\n", "move one b", "move 1.0 b",
    "lead", "lead ", "lead ad", "lead a a", "lead ab ", "lead AB", "lead 0", "lead " + "b" * 61, "lead a\nb",
    "lead  ab",
    "cost", "cost ", "cost x", "cost a b", "cost aa 1", "cost " + "c" * 61, "cost aB", " cost ab", "cost ab\n",
    "show ", "show a", "Show", "paid 1", "paid ", " paid", "yard 2", "yard ", "Yard", "yards", "-", "0", "ab", "a b",
    "follow ab 1", "trial", "run show", "begin aa 3;show", "show\nshow", "price 0 ab \n", "b" * 200, "show" * 5000,
]


class PlainDesk:
    """A desk that keeps all states in one list, and knows at which one it is."""

    def __init__(self):
        self.states = [None]
        self.at = 0

    def change(self, state):
        self.states = [*self.states[:self.at + 1], state]
        self.at += 1

    def undo(self):
        if self.at == 0:
            raise NothingToUndo()
        self.at -= 1

    def redo(self):
        if self.at == len(self.states) - 1:
            raise NothingToRedo()
        self.at += 1

    def copy(self):
        other = PlainDesk()
        other.states, other.at = list(self.states), self.at
        return other


def told_by(call, *args):
    """What a call returns, or the class of the exception that it raises."""
    try:
        return call(*args)
    except CratesError as error:
        return type(error)


def shown(desk):
    """All that a desk tells of itself."""
    return [told_by(desk.yard), told_by(desk.arrangement), told_by(desk.paid), desk.undos, desk.redos]


def plainly_shown(plain):
    state = plain.states[plain.at]
    held = [NoYard] * 3 if state is None else list(state)
    return [*held, plain.at, len(plain.states) - 1 - plain.at]


def whole(desk):
    """All states of a desk, by undoing and redoing all within a trial."""
    def walk(held):
        while held.undos:
            held.undo()
        told = [shown(held)]
        while held.redos:
            held.redo()
            told.append(shown(held))
        return told
    return shown(desk), desk.trial(walk)


def busy_desk():
    """A desk with changes of all kinds, some of them taken back."""
    desk = Desk()
    desk.begin(Yard.even(3, 2), "aaa")
    desk.move(2, "b")
    desk.set_price(1, "ab", 9)
    desk.begin(YARD, "aa")
    desk.move(1, "c")
    desk.set_price(0, "ca", 7)
    desk.lead("cb")
    desk.follow("ba", 2)
    desk.undo()
    desk.undo()
    return desk


class RefusalsTest(RefusalCase):
    def assert_raised(self, kind, call, *args, **names):
        with self.assertRaises(CratesError) as caught:
            call(*args, **names)
        self.assertIs(type(caught.exception), kind)

    def assert_kept(self, desk, kind, value, call, *args):
        before = whole(desk)
        self.assert_refused(kind, value, call, *args)
        self.assertEqual(whole(desk), before)

    def test_without_a_yard(self):
        emptied = busy_desk()
        while emptied.undos:
            emptied.undo()
        for desk in (Desk(), emptied):
            redos = desk.redos
            for values in [(0, "b"), (None, None), (7, "x")]:
                self.assert_raised(NoYard, desk.move, *values)
            for values in [(0, "ab", 3), (None, None, 0)]:
                self.assert_raised(NoYard, desk.set_price, *values)
            for value in ["aa", None, ""]:
                self.assert_raised(NoYard, desk.lead, value)
                self.assert_raised(NoYard, desk.follow, value, -1)
            for call in (desk.yard, desk.arrangement, desk.paid):
                self.assert_raised(NoYard, call)
            for line in ["price 0 ab 3", "price 99 ab -", "move 0 b", "lead aa", "cost aa", "show", "paid", "yard"]:
                self.assert_raised(NoYard, desk.run, line)
                self.assert_raised(NoYard, desk.run_all, [line])
            self.assert_raised(NothingToUndo, desk.undo)
            self.assert_raised(NothingToUndo, desk.run, "undo")
            self.assertEqual([desk.undos, desk.redos], [0, redos])
            for line in NO_LINES:
                self.assert_refused(InvalidLine, line, desk.run, line)

    def test_begin(self):
        for desk in (Desk(), busy_desk()):
            for value in no_yards():
                self.assert_kept(desk, InvalidYard, value, desk.begin, value, "x")
            for value in no_arrangements(2):
                self.assert_kept(desk, InvalidArrangement, value, desk.begin, YARD, value)

    def test_moves(self):
        desk = busy_desk()
        right = allowed(desk.yard(), desk.arrangement())
        values = [(crate, place) for crate in range(-1, 4) for place in [*"abcd", "", "ab", None]]
        values += [(True, "a"), (None, "a"), ("1", "a"), ([], []), (YARD, YARD), (1, ["a"]), (1, ("a",))]
        for crate, place in values:
            if (crate, place) not in right or isinstance(crate, bool):
                before = whole(desk)
                with self.assertRaises(InvalidMove) as caught:
                    desk.move(crate, place)
                self.assertIs(type(caught.exception.value), tuple)
                self.assertEqual(len(caught.exception.value), 2)
                self.assertIs(caught.exception.value[0], crate)
                self.assertIs(caught.exception.value[1], place)
                self.assertEqual(whole(desk), before)

    def test_prices(self):
        desk = busy_desk()
        for value in [*odd_values(), 2, 60, "0", [0]]:
            if value != 0 or isinstance(value, bool):
                self.assert_kept(desk, InvalidCrate, value, desk.set_price, value, "x", 0)
        for value in [value for value in [*odd_values(), "aa", "abc", 0] if value != "ab"]:
            self.assert_kept(desk, InvalidWay, value, desk.set_price, 1, value, 0)
        for value in NO_PRICES:
            self.assert_kept(desk, InvalidPrice, value, desk.set_price, 1, "ab", value)

    def test_leads_and_follows(self):
        desk = busy_desk()
        for value in no_arrangements(2):
            self.assert_kept(desk, InvalidArrangement, value, desk.lead, value)
            self.assert_kept(desk, InvalidArrangement, value, desk.follow, value, -1)
        moves = Way(desk.yard(), desk.arrangement(), "ba").moves
        for value in [value for value in odd_values() if value != 0 or isinstance(value, bool)] + [
            moves + 1, 1001, 10 ** 80, "0", "1", [1], (1,)
        ]:
            self.assert_kept(desk, InvalidCount, value, desk.follow, "ba", value)
        desk.begin(BARRED, "ab")
        before = whole(desk)
        start = desk.arrangement()
        goal = "bb"
        self.assert_no_way(start, goal, desk.lead, goal)
        self.assert_no_way(start, goal, desk.follow, goal, -1)
        with self.assertRaises(NoWay) as caught:
            desk.run("lead bb")
        self.assertEqual((caught.exception.start, caught.exception.goal), ("ab", "bb"))
        self.assertEqual(whole(desk), before)

    def test_more_than_1000_moves_are_not_followed(self):
        desk = Desk()
        desk.begin(Yard.even(60, 1), "a" * 60)
        for count in (1001, 2 ** 60 - 1, 2 ** 60):
            self.assert_kept(desk, InvalidCount, count, desk.follow, "c" * 60, count)
        self.assertEqual(desk.follow("c" * 60, 100), 100)
        self.assertEqual([desk.undos, desk.paid(), desk.arrangement()], [101, 100, Way(
            Yard.even(60, 1), "a" * 60, "c" * 60
        ).behind(100)])

    def test_lines(self):
        desk = busy_desk()
        for value in [*NO_LINES, *[value for value in odd_values() if value != "ab"], 0, b"show", ["show"], ("show",)]:
            self.assert_kept(desk, InvalidLine, value, desk.run, value)
        for value in ["show", None, True, 0, {"show": 1}, {}, "", Desk(), YARD]:
            self.assert_kept(desk, InvalidLine, value, desk.run_all, value)

    def test_lines_raise_what_the_methods_raise(self):
        desk = busy_desk()
        for line, kind, value in [
            ("price 2 ab 3", InvalidCrate, 2), ("price 60 ab -", InvalidCrate, 60),
            ("lead abc", InvalidArrangement, "abc"), ("lead a", InvalidArrangement, "a"),
            ("cost abc", InvalidArrangement, "abc"), ("cost " + "a" * 60, InvalidArrangement, "a" * 60),
            ("move 7 a", InvalidMove, (7, "a")), ("move 0 c", InvalidMove, (0, "c")),
            ("price " + "9" * 40 + " ab 3", InvalidCrate, int("9" * 40)),
        ]:
            before = whole(desk)
            with self.assertRaises(CratesError) as caught:
                desk.run(line)
            self.assertEqual((type(caught.exception), caught.exception.value), (kind, value))
            self.assertEqual(whole(desk), before)

    def test_arguments_by_their_names(self):
        desk = Desk()
        self.assertIsNone(desk.begin(arrangement="aa", yard=YARD))
        self.assertEqual(desk.move(place="b", crate=1), 1)
        self.assertIsNone(desk.set_price(price=9, way="ac", crate=0))
        self.assertEqual(desk.follow(count=1, goal="ba"), 1)
        self.assertEqual(desk.lead(goal="ba"), 6)
        self.assertEqual(desk.trial(act=lambda held: 7), 7)
        self.assertEqual(desk.run(line="show"), "ba")
        self.assertEqual(desk.run_all(lines=["show"]), ["ba"])


class StatesTest(RefusalCase):
    def test_changing_orders(self):
        for seed in range(12):
            chance = random.Random(seed)
            desk, plain = Desk(), PlainDesk()
            for _ in range(120):
                self.step(chance, desk, plain)
                self.assertEqual(shown(desk), plainly_shown(plain))
            while plain.at:
                plain.undo()
                desk.undo()
                self.assertEqual(shown(desk), plainly_shown(plain))

    def step(self, chance, desk, plain):
        """Do one thing at random with both desks."""
        state = plain.states[plain.at]
        actions = ["begin", "move", "move", "price", "lead", "follow", "undo", "undo", "redo", "trial", "run"]
        action = chance.choice(actions)
        if action in ("undo", "redo"):
            self.assertIs(told_by(getattr(desk, action)), told_by(getattr(plain, action)))
        elif action == "begin" or state is None:
            yard = chance.choice([YARD, Yard.even(3, 4), Yard([[1, None, 2, 3, None, 1]] * 2), BARRED])
            arrangement = "".join(chance.choice("abc") for _ in range(len(yard)))
            self.assertIsNone(desk.begin(yard, arrangement))
            plain.change((yard, arrangement, 0))
        elif action == "trial":
            other = plain.copy()
            desk.trial(lambda held: [self.step(chance, held, other) for _ in range(4)])
        else:
            self.change(chance, action, desk, plain, *state)

    def change(self, chance, action, desk, plain, yard, arrangement, paid):
        """Make one change to what lies on both desks, if it can be made."""
        goal = "".join(chance.choice("abc") for _ in arrangement)
        cost = least(yard, arrangement, goal)
        moves = allowed(yard, arrangement)
        if action == "move" and moves:
            move = chance.choice(moves)
            price = row_cost(yard, arrangement, [move])
            self.assertEqual(desk.move(*move), price)
            plain.change((yard, behind(yard, arrangement, [move]), paid + price))
        elif action == "price":
            change = (chance.randrange(len(yard)), chance.choice(WAYS), chance.choice([1, 2, 5, None]))
            self.assertIsNone(desk.set_price(*change))
            plain.change((yard.with_price(*change), arrangement, paid))
        elif action in ("lead", "run") and cost is not None:
            told = desk.lead(goal) if action == "lead" else int(desk.run(f"lead {goal}"))
            self.assertEqual(told, cost)
            plain.change((yard, goal, paid + cost))
        elif action == "follow" and cost is not None:
            way = Way(yard, arrangement, goal)
            count = chance.randrange(way.moves + 1)
            self.assertEqual(desk.follow(goal, count), row_cost(yard, arrangement, way.first(count)))
            for made in range(1, count + 1):
                costs = row_cost(yard, arrangement, way.first(made))
                plain.change((yard, way.behind(made), paid + costs))

    def test_undo_and_redo_past_both_ends(self):
        desk = busy_desk()
        changes, taken_back = desk.undos, desk.redos
        self.assertEqual([changes, taken_back], [7, 2])
        for _ in range(2):
            self.assertIsNone(desk.redo())
        before = whole(desk)
        with self.assertRaises(NothingToRedo):
            desk.redo()
        with self.assertRaises(NothingToRedo):
            desk.run("redo")
        self.assertEqual(whole(desk), before)
        for _ in range(9):
            self.assertIsNone(desk.undo())
        with self.assertRaises(NothingToUndo):
            desk.undo()
        self.assertEqual([desk.undos, desk.redos], [0, 9])
        with self.assertRaises(NoYard):
            desk.yard()

    def test_no_redo_behind_a_new_change(self):
        for change in (
            lambda desk: desk.begin(YARD, "aa"), lambda desk: desk.move(*allowed(desk.yard(), desk.arrangement())[0]),
            lambda desk: desk.set_price(0, "ab", 4), lambda desk: desk.lead(desk.arrangement()),
            lambda desk: desk.follow("ba", 1),
        ):
            desk = busy_desk()
            change(desk)
            self.assertEqual([desk.undos, desk.redos], [8, 0])
            with self.assertRaises(NothingToRedo):
                desk.redo()

    def test_what_raises_or_does_nothing_keeps_the_redos(self):
        desk = busy_desk()
        self.assertEqual(desk.follow("cc", 0), 0)
        for call in (lambda: desk.move(0, "x"), lambda: desk.lead("x"), lambda: desk.set_price(0, "ab", 0)):
            with self.assertRaises(CratesError):
                call()
        self.assertEqual([desk.undos, desk.redos], [7, 2])
        desk.redo()
        self.assertEqual([desk.undos, desk.redos], [8, 1])

    def test_a_lead_of_no_moves_is_a_change(self):
        for yard in (YARD, BARRED):
            desk = Desk()
            desk.begin(yard, "ab")
            self.assertEqual(desk.lead("ab"), 0)
            self.assertEqual([desk.undos, desk.paid(), desk.arrangement()], [2, 0, "ab"])
            desk.undo()
            self.assertEqual([desk.undos, desk.redos], [1, 1])

    def test_follow_none_all_and_one_too_many(self):
        desk = Desk()
        desk.begin(YARD, "ca")
        way = Way(YARD, "ca", "ab")
        self.assertEqual(desk.follow("ab", 0), 0)
        self.assertEqual(desk.undos, 1)
        with self.assertRaises(InvalidCount):
            desk.follow("ab", way.moves + 1)
        self.assertEqual(desk.follow("ab", way.moves), way.cost)
        self.assertEqual([desk.undos, desk.paid(), desk.arrangement()], [1 + way.moves, way.cost, "ab"])
        self.assertEqual(desk.follow("ab", 0), 0)
        with self.assertRaises(InvalidCount):
            desk.follow("ab", 1)
        for count in reversed(range(way.moves)):
            desk.undo()
            self.assertEqual(desk.arrangement(), way.behind(count))

    def test_begin_counts_anew_what_is_paid(self):
        desk = Desk()
        desk.begin(YARD, "aa")
        desk.lead("cc")
        paid = desk.paid()
        desk.begin(Yard.even(3, 2), "abc")
        self.assertEqual([desk.paid(), desk.yard(), desk.arrangement()], [0, Yard.even(3, 2), "abc"])
        desk.undo()
        self.assertEqual([desk.paid(), desk.yard(), desk.arrangement()], [paid, YARD, "cc"])
        desk.redo()
        self.assertEqual(desk.paid(), 0)

    def test_prices_change_what_is_paid_later_alone(self):
        desk = Desk()
        desk.begin(YARD, "aa")
        self.assertEqual(desk.move(1, "b"), 1)
        desk.set_price(1, "bc", 10 ** 79)
        self.assertEqual(desk.move(1, "c"), 10 ** 79)
        self.assertEqual(desk.paid(), 10 ** 79 + 1)
        desk.set_price(1, "cb", None)
        with self.assertRaises(InvalidMove):
            desk.move(1, "b")
        self.assertEqual(YARD.price(1, "bc"), 1)
        self.assertEqual(desk.yard(), YARD.with_price(1, "bc", 10 ** 79).with_price(1, "cb", None))

    def test_two_desks_know_nothing_of_each_other(self):
        one, other = Desk(), Desk()
        one.begin(YARD, "aa")
        self.assertEqual([other.undos, one.undos], [0, 1])
        other.begin(YARD, "bb")
        other.move(1, "a")
        self.assertEqual([one.arrangement(), other.arrangement()], ["aa", "ba"])

    def test_sixty_crates(self):
        desk = Desk()
        yard = long_yard(60)
        desk.begin(yard, START60)
        cost = least(yard, START60, GOAL60)
        self.assertEqual(desk.lead(GOAL60), cost)
        self.assertEqual([desk.paid(), desk.undos], [cost, 2])
        self.assertEqual(desk.run("cost " + GOAL60), "0")
        self.assertEqual(desk.run("yard"), str(yard))
        for _ in range(98):
            desk.set_price(59, "ab", desk.undos)
        for _ in range(100):
            desk.undo()
        self.assertEqual([desk.undos, desk.redos], [0, 100])


class TrialTest(unittest.TestCase):
    def test_the_very_object_comes_back(self):
        for desk in (Desk(), busy_desk()):
            for found in (object(), [1], None, {"a": []}, desk, YARD, True):
                before = whole(desk)
                self.assertIs(desk.trial(lambda held: found), found)
                self.assertEqual(whole(desk), before)

    def test_the_desk_is_the_only_argument(self):
        desk = busy_desk()
        given = []
        desk.trial(lambda *args, **names: given.append((args, names)))
        ((args, names),) = given
        self.assertEqual((len(args), names), (1, {}))
        self.assertIs(args[0], desk)

    def test_all_is_as_before(self):
        def act(held):
            held.undo()
            held.undo()
            held.redo()
            held.begin(Yard.even(4, 1), "abca")
            held.lead("cccc")
            held.set_price(0, "ab", 5)
            held.undo()
            held.follow("aaaa", 5)
            return held.run_all(["show", "undo", "begin aa 3", "move 1 b", "paid"])
        for desk in (busy_desk(), busy_desk()):
            before = whole(desk)
            self.assertEqual(desk.trial(act)[-2:], ["3", "3"])
            self.assertEqual(whole(desk), before)
            self.assertEqual(desk.redos, 2)

    def test_on_an_empty_desk(self):
        desk = Desk()
        self.assertEqual(desk.trial(lambda held: held.run_all(["begin aa 3", "move 1 b", "paid"])), ["ok", "3", "3"])
        self.assertEqual(shown(desk), [NoYard, NoYard, NoYard, 0, 0])

    def test_exceptions_go_on(self):
        error = KeyError("x")

        def fail(held):
            held.lead("aa")
            held.undo()
            held.undo()
            raise error
        for kind, act in [
            (KeyError, fail), (InvalidMove, lambda held: [held.lead("aa"), held.move(0, "x")]),
            (NothingToUndo, lambda held: [held.undo() for _ in range(99)]), (ZeroDivisionError, lambda held: 1 // 0),
        ]:
            desk = busy_desk()
            before = whole(desk)
            with self.assertRaises(kind) as caught:
                desk.trial(act)
            self.assertEqual(whole(desk), before)
        with self.assertRaises(KeyError) as caught:
            desk.trial(fail)
        self.assertIs(caught.exception, error)

    def test_trials_within_trials(self):
        desk = busy_desk()
        before = whole(desk)
        told = []

        def inner(held):
            held.begin(Yard.even(1, 1), "a")
            held.undo()
            desk.lead("bb")
            told.append(shown(held)[1])
            raise KeyError

        def outer(held):
            # By the one handed in and by the outer one, which are the same.
            held.lead("cc")
            first = shown(desk)
            for other in (held, desk):
                with self.assertRaises(KeyError):
                    other.trial(inner)
                self.assertEqual(shown(desk), first)
            desk.undo()
            return shown(held)
        self.assertEqual(desk.trial(outer), [*before[0][:4], 1])
        self.assertEqual(told, ["bb", "bb"])
        self.assertEqual(whole(desk), before)


class CommandsTest(unittest.TestCase):
    def test_every_command(self):
        desk = Desk()
        for line, answer in [
            ("begin aa 3", "ok"), ("show", "aa"), ("paid", "0"), ("yard", "3 3 3 3 3 3\n3 3 3 3 3 3"),
            ("move 1 b", "3"),
            ("price 0 ac 9", "ok"), ("price 1 bc -", "ok"), ("yard", "3 9 3 3 3 3\n3 3 3 - 3 3"), ("cost bb", "12"),
            ("lead cc", "15"), ("show", "cc"), ("paid", "18"), ("undo", "ok"), ("show", "ab"), ("paid", "3"),
            ("redo", "ok"), ("show", "cc"), ("cost cc", "0"), ("lead cc", "0"),
            ("begin c " + "9" * 40, "ok"), ("cost a", "9" * 40), ("move 0 a", "9" * 40), ("price 0 ab -", "ok"),
            ("price 0 ac -", "ok"), ("cost b", "none"), ("yard", " ".join(["-", "-", *["9" * 40] * 4])),
            ("begin " + START60 + " 1", "ok"), ("show", START60), ("price 59 cb 12345678901234567890", "ok"),
        ]:
            told = desk.run(line)
            self.assertEqual(told, answer)
            self.assertIs(type(told), str)

    def test_what_the_commands_do(self):
        desk, other = Desk(), Desk()
        desk.run("begin abc 7")
        other.begin(Yard.even(3, 7), "abc")
        for line, call in [
            ("lead cab", lambda: other.lead("cab")), ("price 1 ba -", lambda: other.set_price(1, "ba", None)),
            ("price 2 cb 8", lambda: other.set_price(2, "cb", 8)), ("undo", other.undo),
            ("lead abb", lambda: other.lead("abb")),
            ("undo", other.undo), ("redo", other.redo), ("cost ccc", lambda: None), ("show", lambda: None),
        ]:
            desk.run(line)
            call()
            self.assertEqual(whole(desk), whole(other))

    def test_lists_and_tuples_of_commands(self):
        lines = ["begin aa 3", "move 1 b", "paid"]
        for kind in (list, tuple):
            desk = Desk()
            told = desk.run_all(kind(lines))
            self.assertEqual(told, ["ok", "3", "3"])
            self.assertIs(type(told), list)
            told.append("x")
            self.assertEqual(desk.run_all([]), [])
            self.assertEqual([desk.undos, desk.run_all(())], [2, []])
        self.assertEqual(lines, ["begin aa 3", "move 1 b", "paid"])

    def test_a_command_amid_that_raises(self):
        for wrong, kind in [
            ("move 0 x", InvalidLine), (None, InvalidLine), (["show"], InvalidLine), ("move 1 a", InvalidMove),
            ("lead abc", InvalidArrangement), ("price 9 ab 1", InvalidCrate), ("redo", NothingToRedo),
        ]:
            desk = busy_desk()
            before = whole(desk)
            with self.assertRaises(CratesError) as caught:
                desk.run_all(["undo", "begin aa 3", "lead ab", "undo", "move 1 c", "lead ba", wrong, "lead bb", "no"])
            self.assertIs(type(caught.exception), kind)
            if kind is InvalidLine:
                self.assertIs(caught.exception.value, wrong)
            self.assertEqual(whole(desk), before)
            self.assertEqual(desk.redos, 2)
        desk = Desk()
        with self.assertRaises(NothingToUndo):
            desk.run_all(["begin aa 3", "undo", "undo"])
        self.assertEqual(shown(desk), [NoYard, NoYard, NoYard, 0, 0])

    def test_the_examples_of_the_document(self):
        desk = Desk()
        self.assertEqual(
            desk.run_all(
                ["begin aa 3", "move 1 b", "price 0 ac 9", "cost bb", "lead cc", "paid", "show", "undo", "show"]
            ),
            ["ok", "3", "ok", "9", "12", "15", "cc", "ok", "ab"],
        )
        self.assertEqual(
            [desk.follow("ba", 2), desk.arrangement(), desk.paid(), desk.undos, desk.redos,
             desk.trial(lambda held: held.lead("aa")), desk.arrangement()],
            [6, "bc", 9, 5, 0, 6, "bc"],
        )
        with self.assertRaises(InvalidMove) as caught:
            desk.move(0, "c")
        self.assertEqual(caught.exception.value, (0, "c"))


if __name__ == "__main__":
    unittest.main()
