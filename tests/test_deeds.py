"""What deeds refuse and in which order; undone, done again, and what would be behind some deeds."""

import itertools
import random
import unittest

from hissroom import errors
from hissroom.errors import NothingLeft
from hissroom.room import Room
from tests.helper import (
    Case,
    asked,
    by_deed,
    by_method,
    drawn_deed,
    drawn_rooms,
    room_with,
    slow_refusal,
    told_or_refused,
)

WAYS = (by_method, by_deed)
EVERY_KIND = (
    ("put", "a", "ooxx", 0),
    ("put", "b", "xxoo", 3),
    ("join", "c", "a", "b", 2),
    ("found", "c", 3, "x"),
    ("found", "a", 0, "o"),
    ("aged", "b", 1),
    ("aged", "a", 0),
    ("free", 1),
    ("shut", 1),
    ("shut", 1),
    ("shut", 3),
    ("put", "z", "xxxx", 20),
    ("drop", "c"),
    ("drop", "b"),
    ("put", "b", "oooo", 9),
    ("join", "d", "b", "a", 2),
    ("free", 3),
    ("join", "e", "d", "d", 3),
    ("found", "e", 2, "o"),
    ("aged", "b", 20),
    ("drop", "e"),
)


def room_for_refusals(full):
    """A room with something to do again: `a` is needed, `j` joined, `f` a first take that can go, place 2 shut."""
    room = room_with(
        4, ("put", "a", "oxox", 0), ("put", "f", "oooo", 0), ("join", "j", "a", "a", 1), ("shut", 2), ("shut", 2)
    )
    if full:
        for letter in "bcdeghiklmnopqrst":
            room.put(letter, "oooo", 0)
    room.free(1)
    room.free(1)
    room.undo()
    return room


def first_of(*wrongs):
    """The first refusal of those that hold, or None."""
    return next((wrong for wrong in wrongs if wrong), None)


NEW = ((None, "new"), ("BadName", "New"), ("BadName", ""), ("BadName", "a\n"), ("Taken", "a"), ("Taken", "j"))
ROOM = ((None, False), ("Full", True))
BARS = ((None, "oxxo"), ("BadBars", "oxx"), ("BadBars", "oxxoo"), ("BadBars", "oxxy"))
AGE = ((None, 0), (None, 20), ("BadAge", -1), ("BadAge", 21), ("BadAge", 10 ** 20))
TAKE = ((None, "a"), (None, "j"), ("NoTake", "nobody"), ("NoTake", ""))
PLACE = ((None, 1), (None, 3), ("BadPlace", 0), ("BadPlace", 4), ("BadPlace", -2), ("Shut", 2))
BAR = ((None, 0), (None, 3), ("BadBar", -1), ("BadBar", 4), ("BadBar", 10 ** 20))
SIGN = ((None, "o"), (None, "x"), ("BadBars", ""), ("BadBars", "ox"), ("BadBars", "X"))
FIRST = ((None, "a"), (None, "f"), ("NoTake", "nobody"), ("Joined", "j"))
GOING = ((None, "f"), (None, "j"), ("NoTake", "nobody"), ("NoTake", "F"), ("Needed", "a"))
ANY_PLACE = ((None, 1), (None, 2), (None, 3), ("BadPlace", 0), ("BadPlace", 4), ("BadPlace", -1))


def rows_of(word, *things):
    """For all ways to choose the things: the refusal that goes first, whether the room is full, and the row."""
    for chosen in itertools.product(*things):
        wrongs = [wrong for wrong, thing in chosen]
        yield first_of(*wrongs), False, (word, *[thing for wrong, thing in chosen])


def rows_for_new(word, *things):
    """The same for deeds by which a take comes: fullness goes behind what is wrong with the name."""
    for (wrong, name), (no_space, full), *chosen in itertools.product(NEW, ROOM, *things):
        wrongs = [wrong, no_space] + [other for other, thing in chosen]
        yield first_of(*wrongs), full, (word, name, *[thing for other, thing in chosen])


class Refusals(Case):
    def goes(self, rows):
        met = set()
        rooms = {full: room_for_refusals(full) for full in (False, True)}
        before = {full: asked(room) for full, room in rooms.items()}
        for wrong, full, row in rows:
            met.add(wrong)
            for do in WAYS:
                if wrong is None:
                    room = room_for_refusals(full)
                    self.assertIsNone(do(room, row))
                    self.assertTold(room.deeds()[-1], row)
                    self.assertTold(room.ahead(), [])
                else:
                    with self.assertRaises(errors.HissError) as caught:
                        do(rooms[full], row)
                    self.assertIs(type(caught.exception), getattr(errors, wrong), row)
                    self.assertTold(rooms[full].deeds(), before[full][1])
                    self.assertTold(rooms[full].ahead(), [("free", 1)])
        for full, room in rooms.items():
            self.assertTold(asked(room), before[full])
            self.assertTold(room.redo(), ("free", 1))
        return met

    def test_put(self):
        met = self.goes(rows_for_new("put", BARS, AGE))
        self.assertEqual(met, {None, "BadName", "Taken", "Full", "BadBars", "BadAge"})

    def test_join(self):
        met = self.goes(rows_for_new("join", TAKE, TAKE, PLACE))
        self.assertEqual(met, {None, "BadName", "Taken", "Full", "NoTake", "BadPlace", "Shut"})

    def test_found(self):
        self.assertEqual(self.goes(rows_of("found", TAKE, BAR, SIGN)), {None, "NoTake", "BadBar", "BadBars"})

    def test_aged(self):
        self.assertEqual(self.goes(rows_of("aged", FIRST, AGE)), {None, "NoTake", "Joined", "BadAge"})

    def test_drop(self):
        self.assertEqual(self.goes(rows_of("drop", GOING)), {None, "NoTake", "Needed"})

    def test_free_and_shut(self):
        self.assertEqual(self.goes(rows_of("free", ANY_PLACE)), {None, "BadPlace"})
        self.assertEqual(self.goes(rows_of("shut", ANY_PLACE)), {None, "BadPlace"})

    def test_a_refused_deed_leaves_all_as_it_was(self):
        rows = (
            ("put", "a", "oxox", 0), ("put", "n", "oxox", 21), ("join", "n", "a", "j", 2), ("join", "n", "a", "x", 1),
            ("found", "j", 4, "x"), ("found", "j", 0, "y"), ("aged", "j", 3), ("aged", "a", -1), ("drop", "a"),
            ("free", 0), ("shut", 4),
        )
        room = room_for_refusals(False)
        before = asked(room)
        for row in rows:
            for do in WAYS:
                self.assertEqual(told_or_refused(do, room, row)[0], "refused")
                self.assertTold(asked(room), before)
        room.redo()
        self.assertTold(room.ahead(), [])


class Kept(Case):
    def test_methods_and_tuples_alike(self):
        one, other = Room(4), Room(4)
        for at, row in enumerate(EVERY_KIND):
            self.assertIsNone(by_method(one, row))
            self.assertIsNone(by_deed(other, row))
            self.assertTold(one.deeds(), list(EVERY_KIND[:at + 1]))
            self.assertTold(asked(one), asked(other))

    def test_each_deed_word_for_word(self):
        for do in WAYS:
            room = Room(4)
            for at, row in enumerate(EVERY_KIND):
                do(room, row)
                self.assertStands(room, EVERY_KIND[:at + 1])

    def test_by_the_names_of_their_things(self):
        room = Room(2)
        room.put(age=1, bars="ox", name="a")
        room.join(name="b", left="a", right="a", place=1)
        room.found(name="b", bar=1, sign="o")
        room.aged(name="a", age=2)
        room.shut(place=1)
        room.free(place=1)
        room.drop(name="b")
        room.deed(row=("drop", "a"))
        self.assertTold(room.deeds(), [
            ("put", "a", "ox", 1), ("join", "b", "a", "a", 1), ("found", "b", 1, "o"), ("aged", "a", 2), ("shut", 1),
            ("free", 1), ("drop", "b"), ("drop", "a"),
        ])

    def test_drawn_deeds(self):
        chance = random.Random(71)
        met = set()
        for at in range(60):
            room = Room(chance.choice((1, 2, 3, 4, 5)))
            deeds, ahead = [], []
            for count in range(40):
                what = chance.random()
                if what < 0.15:
                    if deeds:
                        ahead.insert(0, deeds.pop())
                        self.assertTold(room.undo(), ahead[0])
                    else:
                        self.assertRefuses(NothingLeft, room.undo)
                elif what < 0.25:
                    if ahead:
                        deeds.append(ahead.pop(0))
                        self.assertTold(room.redo(), deeds[-1])
                    else:
                        self.assertRefuses(NothingLeft, room.redo)
                else:
                    row = drawn_deed(chance, room)
                    wrong = slow_refusal(room.size(), deeds, row)
                    met.add((row[0], wrong))
                    told = told_or_refused(chance.choice(WAYS), room, row)
                    self.assertTold(told, ("told", None) if wrong is None else ("refused", wrong))
                    if wrong is None:
                        deeds.append(row)
                        ahead = []
                self.assertStands(room, deeds, ahead)
        self.assertEqual(set(word for word, wrong in met if wrong is None), set(row[0] for row in EVERY_KIND))
        wanted = {"BadName", "Taken", "BadBars", "BadAge", "NoTake", "BadPlace", "Shut", "BadBar", "Joined", "Needed"}
        self.assertEqual(set(wrong for word, wrong in met), wanted | {None})


class Undone(Case):
    def test_each_kind_of_deed(self):
        room = Room(4)
        for row in EVERY_KIND:
            before = asked(room)
            room.deed(row)
            after = asked(room)
            self.assertTold(room.undo(), row)
            self.assertTold(room.ahead(), [row])
            self.assertTold(asked(room)[3:], before[3:])
            self.assertTold(room.deeds(), before[1])
            self.assertTold(room.redo(), row)
            self.assertTold(asked(room), after)

    def test_to_the_beginning_and_to_the_end(self):
        room = Room(4)
        states = [asked(room)[3:]]
        for row in EVERY_KIND:
            room.deed(row)
            states.append(asked(room)[3:])
        for at in reversed(range(len(EVERY_KIND))):
            self.assertTold(room.undo(), EVERY_KIND[at])
            self.assertTold(asked(room)[3:], states[at])
            self.assertStands(room, EVERY_KIND[:at], EVERY_KIND[at:])
        self.assertLeft(room, NothingLeft, room.undo)
        for at, row in enumerate(EVERY_KIND):
            self.assertTold(room.redo(), row)
            self.assertTold(asked(room)[3:], states[at + 1])
            self.assertStands(room, EVERY_KIND[:at + 1], EVERY_KIND[at + 1:])
        self.assertLeft(room, NothingLeft, room.redo)

    def test_nothing_at_first(self):
        room = Room(4)
        self.assertLeft(room, NothingLeft, room.undo)
        self.assertLeft(room, NothingLeft, room.redo)

    def test_another_deed_behind_an_undo(self):
        for many in (1, 2, len(EVERY_KIND)):
            for row in (("put", "new", "xxxx", 0), ("shut", 1), ("free", 2)):
                room = room_with(4, *EVERY_KIND)
                for count in range(many):
                    room.undo()
                room.deed(row)
                kept = EVERY_KIND[:len(EVERY_KIND) - many] + (row,)
                self.assertStands(room, kept)
                self.assertLeft(room, NothingLeft, room.redo)
                self.assertTold(room.undo(), row)
                self.assertStands(room, kept[:-1], [row])

    def test_the_same_deed_behind_an_undo(self):
        room = room_with(2, ("put", "a", "ox", 0), ("put", "b", "xo", 0))
        room.undo()
        room.undo()
        room.put("a", "ox", 0)
        self.assertTold(room.ahead(), [])
        self.assertTold(room.names(), ["a"])

    def test_the_order_of_names(self):
        room = room_with(2, ("put", "a", "ox", 0), ("put", "b", "xo", 1), ("put", "c", "oo", 2), ("drop", "a"))
        room.undo()
        self.assertTold(room.names(), ["a", "b", "c"])
        self.assertTold(room.takes(), [("ox", 0), ("xo", 1), ("oo", 2)])
        room.redo()
        self.assertTold(room.names(), ["b", "c"])
        room.put("a", "xx", 3)
        self.assertTold(room.names(), ["b", "c", "a"])
        room.undo()
        room.undo()
        self.assertTold(room.names(), ["a", "b", "c"])
        room.redo()
        room.redo()
        self.assertTold(room.names(), ["b", "c", "a"])
        self.assertTold(room.takes(), [("xo", 1), ("oo", 2), ("xx", 3)])

    def test_many_deeds(self):
        room = Room(40)
        for count in range(1500):
            room.shut(count % 39 + 1)
            room.free(count % 39 + 1)
        for count in range(3000):
            room.undo()
        self.assertRefuses(NothingLeft, room.undo)
        self.assertEqual(len(room.ahead()), 3000)
        for count in range(3000):
            room.redo()
        self.assertTold(room.cuts(), list(range(1, 40)))


class After(Case):
    def setUp(self):
        self.room = room_with(
            6, ("put", "a", "ooxxxx", 0), ("put", "b", "xxooxx", 0), ("put", "c", "xxxxoo", 2), ("shut", 1), ("shut", 5)
        )
        self.room.undo()

    def tells(self, deeds, wanted):
        before = asked(self.room)
        self.assertTold(self.room.after(deeds), wanted)
        self.assertTold(asked(self.room), before)

    def test_no_deeds(self):
        self.tells([], (3, 2))
        self.assertIsNone(Room(3).after([]))

    def test_good_deeds(self):
        self.tells([("join", "d", "a", "b", 2)], (3, 1))
        self.tells([("join", "d", "a", "b", 2), ("join", "e", "d", "c", 4)], (3, 0))
        self.tells([("shut", 2)], None)
        self.tells([("shut", 2), ("free", 2)], (3, 2))
        self.tells([("drop", "c")], None)
        self.tells([("drop", "c"), ("put", "c", "xxxxoo", 0)], (2, 2))
        self.tells([("aged", "c", 0), ("found", "b", 4, "o"), ("found", "b", 5, "o")], (1, 1))
        self.tells([("put", "d", "oooooo", 3)], (3, 0))

    def test_the_first_refusal_goes(self):
        good = [("put", "d", "oooooo", 3), ("shut", 3)]
        wrongs = [
            (errors.Taken, ("put", "d", "oooooo", 3)),
            (errors.Shut, ("join", "e", "a", "d", 3)),
            (errors.NoTake, ("drop", "e")),
            (errors.BadPlace, ("free", 6)),
            (errors.BadBar, ("found", "d", 6, "o")),
            (errors.BadBars, ("found", "d", 5, "O")),
            (errors.BadAge, ("aged", "d", 21)),
            (errors.BadName, ("put", "D", "oooooo", 3)),
        ]
        for wrong, row in wrongs:
            self.assertLeft(self.room, wrong, self.room.after, good + [row])
            for other, later in wrongs:
                self.assertLeft(self.room, wrong, self.room.after, good + [row, ("shut", 1), later])
        self.assertLeft(self.room, errors.BadPlace, self.room.after, [("free", 0)])
        self.assertLeft(self.room, errors.Needed, self.room.after, [("join", "d", "a", "b", 2), ("drop", "a")])
        self.assertLeft(self.room, errors.Joined, self.room.after, [("join", "d", "a", "b", 2), ("aged", "d", 1)])
        many = [("put", name, "oooooo", 0) for name in "defghijklmnopqrst"]
        self.assertLeft(self.room, errors.Full, self.room.after, many + [("put", "u", "oooooo", 0)])
        self.tells(many, (0, 0))

    def test_as_if_they_were_done(self):
        for room in drawn_rooms(30, 72):
            rest = room.ahead()
            other = room.twin()
            for row in rest:
                other.redo()
            before = asked(room)
            told = None if other.least() is None else (other.least(), other.few())
            self.assertTold(room.after(rest), told)
            self.assertTold(asked(room), before)

    def test_keeps_apart(self):
        self.assertKeepsApart(self.room.after, [("join", "d", "a", "b", 2), ("shut", 3)])


class Twin(Case):
    def test_alike_in_all(self):
        rooms = [Room(1), Room(40)] + list(drawn_rooms(30, 73))
        for room in rooms:
            twin = room.twin()
            self.assertIs(type(twin), Room)
            self.assertIsNot(twin, room)
            self.assertTold(asked(twin), asked(room))
            while twin.deeds():
                self.assertTold(twin.undo(), room.undo())
                self.assertTold(asked(twin), asked(room))
            while twin.ahead():
                self.assertTold(twin.redo(), room.redo())
                self.assertTold(asked(twin), asked(room))
            self.assertRefuses(NothingLeft, twin.redo)

    def test_each_is_left_by_what_is_done_in_the_other(self):
        doings = (
            lambda room: room.put("new", "oxxx", 0),
            lambda room: room.found("e", 1, "x"),
            lambda room: room.aged("b", 2),
            lambda room: room.drop("e"),
            lambda room: room.shut(2),
            lambda room: room.undo(),
            lambda room: room.redo(),
            lambda room: [room.undo(), room.undo(), room.shut(3)],
            lambda room: [room.redo(), room.shut(3), room.undo()],
        )
        for first, second in itertools.product(doings, doings):
            room = room_with(4, *EVERY_KIND)
            room.undo()
            room.undo()
            twin = room.twin()
            before = asked(room)
            first(twin)
            self.assertTold(asked(room), before)
            behind = asked(twin)
            second(room)
            self.assertTold(asked(twin), behind)

    def test_a_twin_of_a_twin(self):
        room = room_with(2, ("put", "a", "ox", 0))
        other = room.twin().twin()
        other.undo()
        self.assertTold(room.names(), ["a"])
        self.assertTold(other.names(), [])
        self.assertTold(other.ahead(), [("put", "a", "ox", 0)])


if __name__ == "__main__":
    unittest.main()
