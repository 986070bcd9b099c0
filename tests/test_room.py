import unittest

from hissroom.errors import BadAge, BadBar, BadBars, BadName, BadPlace, BadSize, Full, Needed, NoTake, Shut
from hissroom.few import fewest
from hissroom.looker import good_answer
from hissroom.reach import least_age
from hissroom.room import Room
from tests.helper import (
    Case,
    asked,
    drawn_rooms,
    drawn_shelves,
    joined_shelves,
    lists_in,
    room_with,
    shelf_rooms,
    small_shelves,
    spoil,
    wide_shelves,
)

LETTERS = "abcdefghijklmnopqrst"
FAR = 10 ** 20
NOT_NAMES = ("", "abcdefghi", "A", "aB", "a1", "1", "a b", " a", "a ", "a\n", "\n", "a-b", "`", "{", "a_b", "a" * 100)


def full_room(size=2):
    """A room of 20 takes, of which none is joined."""
    return room_with(size, *[("put", letter, "o" * size, 0) for letter in LETTERS])


class Sizes(Case):
    def test_sizes_that_are_there(self):
        for size in (1, 2, 39, 40):
            room = Room(size)
            self.assertTold(room.size(), size)
            self.assertTold(room.names(), [])
            self.assertTold(room.takes(), [])
            self.assertTold(room.cuts(), list(range(1, size)))
            self.assertTold(room.deeds(), [])
            self.assertTold(room.ahead(), [])

    def test_sizes_that_are_none(self):
        for size in (0, 41, -1, -40, 100, FAR, -FAR, 10 ** 6000):
            self.assertRefuses(BadSize, Room, size)

    def test_rooms_are_apart(self):
        one, other = Room(3), Room(3)
        before = asked(other)
        one.put("a", "oxo", 1)
        one.shut(2)
        self.assertTold(asked(other), before)
        other.put("a", "xxx", 2)
        other.put("b", "ooo", 3)
        self.assertTold(one.takes(), [("oxo", 1)])
        self.assertTold(one.cuts(), [1])
        one.undo()
        one.undo()
        self.assertTold(other.takes(), [("xxx", 2), ("ooo", 3)])
        self.assertTold(other.ahead(), [])


class Putting(Case):
    def test_a_take_is_there(self):
        room = Room(3)
        self.assertIsNone(room.put("a", "oxo", 7))
        self.assertTold(room.names(), ["a"])
        self.assertTold(room.takes(), [("oxo", 7)])
        self.assertTold(room.bars("a"), "oxo")
        self.assertTold(room.age("a"), 7)
        self.assertIsNone(room.parts("a"))
        self.assertTold([room.source("a", bar) for bar in range(3)], [("a", 0)] * 3)
        self.assertTold(room.deeds(), [("put", "a", "oxo", 7)])

    def test_names_stand_as_they_came(self):
        room = room_with(1, ("put", "z", "o", 3), ("put", "b", "x", 1), ("put", "m", "o", 2))
        self.assertTold(room.names(), ["z", "b", "m"])
        self.assertTold(room.takes(), [("o", 3), ("x", 1), ("o", 2)])

    def test_names(self):
        for name in ("a", "z", "az", "abcdefgh", "zzzzzzzz", "put"):
            room = room_with(2, ("put", name, "oo", 0), ("join", "other", name, name, 1))
            self.assertTold(room.names(), [name, "other"])
            room = room_with(2, ("put", "other", "oo", 0), ("join", name, "other", "other", 1))
            self.assertTold(room.names(), ["other", name])

    def test_names_that_are_none(self):
        room = room_with(2, ("put", "a", "oo", 0))
        for name in NOT_NAMES:
            self.assertLeft(room, BadName, room.put, name, "oo", 0)
            self.assertLeft(room, BadName, room.join, name, "a", "a", 1)

    def test_ages(self):
        for age in (0, 1, 19, 20):
            room = room_with(1, ("put", "a", "o", age), ("put", "b", "o", 5), ("aged", "b", age))
            self.assertTold(room.takes(), [("o", age)] * 2)
        for age in (-1, 21, 60, FAR, -FAR, 10 ** 6000):
            room = room_with(1, ("put", "a", "o", 0))
            self.assertLeft(room, BadAge, room.put, "b", "o", age)
            self.assertLeft(room, BadAge, room.aged, "a", age)

    def test_bars_that_are_none(self):
        room = Room(3)
        for bars in ("", "oo", "oooo", "ooO", "oo0", "oo ", " oo", "ooX", "oo\n", "ooo\n", "oyo", "x" * 41):
            self.assertLeft(room, BadBars, room.put, "a", bars, 0)
        for bars in ("ooo", "xxx", "oxo"):
            room.put(bars, bars, 0)
        self.assertTold(room.names(), ["ooo", "xxx", "oxo"])
        long = room_with(40, ("put", "a", "ox" * 20, 0))
        self.assertLeft(long, BadBars, long.put, "b", "o" * 39, 0)
        self.assertLeft(long, BadBars, long.put, "b", "o" * 41, 0)


class HowMany(Case):
    def test_twenty_takes(self):
        room = full_room()
        self.assertTold(room.names(), list(LETTERS))
        self.assertLeft(room, Full, room.put, "u", "oo", 0)
        self.assertLeft(room, Full, room.join, "u", "a", "b", 1)

    def test_one_more_behind_a_drop(self):
        for row in (("put", "u", "ox", 4), ("join", "u", "b", "c", 1)):
            room = full_room()
            room.drop("a")
            room.deed(row)
            self.assertTold(room.names(), list(LETTERS[1:]) + ["u"])
            self.assertLeft(room, Full, room.put, "a", "oo", 0)
            self.assertLeft(room, Full, room.join, "a", "b", "c", 1)

    def test_joined_takes_count(self):
        room = room_with(2, ("put", "a", "ox", 0))
        for letter in LETTERS[1:]:
            room.join(letter, "a", "a", 1)
        self.assertEqual(len(room.names()), 20)
        self.assertLeft(room, Full, room.join, "u", "a", "a", 1)
        self.assertLeft(room, Full, room.put, "u", "oo", 0)
        # What changes no number of takes goes on.
        room.found("t", 0, "x")
        room.aged("a", 3)
        room.shut(1)

    def test_undo_makes_space(self):
        room = full_room()
        room.undo()
        room.put("u", "oo", 0)
        self.assertTold(room.names(), list(LETTERS[:19]) + ["u"])


class Places(Case):
    def test_places_of_songs(self):
        for size in (2, 3, 40):
            for place in (1, size - 1):
                room = room_with(size, ("put", "a", "o" * size, 0))
                self.assertIsNone(room.shut(place))
                self.assertTold(room.cuts(), [other for other in range(1, size) if other != place])
                self.assertLeft(room, Shut, room.join, "b", "a", "a", place)
                self.assertIsNone(room.free(place))
                self.assertTold(room.cuts(), list(range(1, size)))
                room.join("b", "a", "a", place)

    def test_places_that_are_none(self):
        for size in (1, 2, 3, 40):
            room = room_with(size, ("put", "a", "o" * size, 0))
            for place in (0, size, size + 1, -1, 1 - size, -size, FAR, -FAR, 10 ** 6000):
                if not 1 <= place < size:
                    self.assertLeft(room, BadPlace, room.join, "b", "a", "a", place)
                    self.assertLeft(room, BadPlace, room.free, place)
                    self.assertLeft(room, BadPlace, room.shut, place)

    def test_one_bar_has_no_place(self):
        room = room_with(1, ("put", "a", "o", 0))
        for place in range(-2, 5):
            self.assertLeft(room, BadPlace, room.join, "b", "a", "a", place)
            self.assertLeft(room, BadPlace, room.free, place)
            self.assertLeft(room, BadPlace, room.shut, place)
        self.assertTold(room.cuts(), [])

    def test_a_place_that_is_so_already_stays_so(self):
        room = Room(4)
        room.free(2)
        self.assertTold(room.cuts(), [1, 2, 3])
        room.shut(2)
        room.shut(2)
        self.assertTold(room.cuts(), [1, 3])
        room.free(2)
        room.free(2)
        self.assertTold(room.cuts(), [1, 2, 3])
        self.assertTold(room.deeds(), [("free", 2), ("shut", 2), ("shut", 2), ("free", 2), ("free", 2)])

    def test_places_freed_anew_stand_in_their_order(self):
        room = room_with(5, ("shut", 1), ("shut", 2), ("shut", 4), ("free", 2), ("free", 1))
        self.assertTold(room.cuts(), [1, 2, 3])

    def test_a_joined_take_stays_when_its_place_is_shut(self):
        room = room_with(4, ("put", "a", "ooxx", 0), ("put", "b", "xxoo", 2), ("join", "c", "a", "b", 2), ("shut", 2))
        self.assertTold(room.takes()[2], ("oooo", 3))
        self.assertTold(room.parts("c"), ("a", "b", 2))
        self.assertTold(room.source("c", 2), ("b", 1))
        room.found("c", 3, "x")
        room.aged("b", 9)
        self.assertTold(room.takes(), [("ooxx", 0), ("xxox", 9), ("ooox", 10)])
        self.assertLeft(room, Shut, room.join, "d", "a", "b", 2)
        room.join("d", "c", "c", 1)
        self.assertTold(room.source("d", 3), ("b", 2))


class Joining(Case):
    def setUp(self):
        self.room = room_with(
            6, ("put", "a", "ooxxxx", 1), ("put", "b", "xxooxx", 4), ("put", "c", "xxxxoo", 0),
            ("join", "d", "a", "b", 2), ("join", "e", "d", "c", 4), ("join", "f", "e", "d", 1),
        )

    def test_bars_ages_and_parts(self):
        room = self.room
        self.assertTold(
            room.takes(),
            [("ooxxxx", 1), ("xxooxx", 4), ("xxxxoo", 0), ("ooooxx", 5), ("oooooo", 6), ("ooooxx", 7)],
        )
        wanted = [None, None, None, ("a", "b", 2), ("d", "c", 4), ("e", "d", 1)]
        self.assertTold([room.parts(name) for name in room.names()], wanted)
        self.assertTold([room.bars(name) for name in room.names()], [bars for bars, age in room.takes()])
        self.assertTold([room.age(name) for name in room.names()], [age for bars, age in room.takes()])

    def test_sources_through_several_joinings(self):
        room = self.room
        a, b, c = "abc"
        wanted = {
            "a": [(a, 0)] * 6,
            "d": [(a, 1), (a, 1), (b, 1), (b, 1), (b, 1), (b, 1)],
            "e": [(a, 2), (a, 2), (b, 2), (b, 2), (c, 1), (c, 1)],
            "f": [(a, 3), (a, 2), (b, 2), (b, 2), (b, 2), (b, 2)],
        }
        for name, sources in wanted.items():
            self.assertTold([room.source(name, bar) for bar in range(6)], sources)

    def test_questions_that_are_refused(self):
        for room in (self.room, Room(6)):
            for name in ("g", "", "aa", "A", "a "):
                self.assertLeft(room, NoTake, room.bars, name)
                self.assertLeft(room, NoTake, room.age, name)
                self.assertLeft(room, NoTake, room.parts, name)
                for bar in (0, -1, 6, FAR):
                    self.assertLeft(room, NoTake, room.source, name, bar)
        for name in "adf":
            for bar in (-1, 6, 7, -6, FAR, -FAR, 10 ** 6000):
                self.assertLeft(self.room, BadBar, self.room.source, name, bar)

    def test_one_and_the_same_take_at_both_sides(self):
        room = room_with(3, ("put", "a", "oxo", 0), ("join", "b", "a", "a", 1), ("join", "c", "b", "b", 2))
        self.assertTold(room.takes(), [("oxo", 0), ("oxo", 1), ("oxo", 2)])
        self.assertTold(room.parts("c"), ("b", "b", 2))
        self.assertTold([room.source("c", bar) for bar in range(3)], [("a", 2)] * 3)
        room.found("c", 1, "o")
        room.aged("a", 20)
        self.assertTold(room.takes(), [("ooo", 20), ("ooo", 21), ("ooo", 22)])

    def test_a_chain_of_twenty(self):
        room = room_with(40, ("put", "a", "o" * 40, 20))
        for one, other in zip(LETTERS, LETTERS[1:]):
            room.join(other, one, one, 20)
        self.assertTold(room.age("t"), 39)
        self.assertTold(room.source("t", 39), ("a", 19))
        room.found("t", 0, "x")
        self.assertTold(room.takes(), [("x" + "o" * 39, 20 + at) for at in range(20)])

    def test_the_place_is_that_of_the_joining_on_either_side(self):
        for place in (1, 20, 39):
            room = room_with(40, ("put", "a", "o" * 40, 0), ("put", "b", "x" * 40, 0), ("join", "c", "a", "b", place))
            self.assertTold(room.bars("c"), "o" * place + "x" * (40 - place))
            self.assertTold(room.source("c", place - 1), ("a", 1))
            self.assertTold(room.source("c", place), ("b", 1))


class FindingOut(Case):
    def setUp(self):
        self.room = room_with(
            4, ("put", "a", "oooo", 0), ("put", "b", "oooo", 2), ("join", "c", "a", "b", 2), ("join", "d", "c", "a", 3),
            ("join", "e", "b", "d", 1),
        )

    def test_a_bar_heard_on_the_first_take(self):
        self.assertIsNone(self.room.found("a", 1, "x"))
        self.assertTold([self.room.bars(name) for name in "abcde"], ["oxoo", "oooo", "oxoo", "oxoo", "oxoo"])

    def test_a_bar_heard_on_any_take_that_has_it(self):
        for name in "acde":
            room = self.room.twin()
            room.found(name, 1, "x")
            self.assertTold([room.bars(other) for other in "abcde"], ["oxoo", "oooo", "oxoo", "oxoo", "oxoo"])

    def test_either_side_of_the_place(self):
        self.room.found("c", 2, "x")
        self.assertTold([self.room.bars(name) for name in "abcde"], ["oooo", "ooxo", "ooxo", "ooxo", "ooxo"])
        self.room.found("c", 3, "x")
        self.assertTold([self.room.bars(name) for name in "abcde"], ["oooo", "ooxx", "ooxx", "ooxo", "ooxo"])
        self.room.found("d", 3, "x")
        self.assertTold([self.room.bars(name) for name in "abcde"], ["ooox", "ooxx", "ooxx", "ooxx", "ooxx"])
        self.room.found("e", 0, "x")
        self.assertTold([self.room.bars(name) for name in "abcde"], ["ooox", "xoxx", "ooxx", "ooxx", "xoxx"])

    def test_found_and_found_again(self):
        for sign, bars in (("x", "xooo"), ("x", "xooo"), ("o", "oooo"), ("o", "oooo")):
            self.room.found("d", 0, sign)
            self.assertTold(self.room.bars("a"), bars)
        self.assertEqual(len(self.room.deeds()), 9)

    def test_what_is_found_ahead_of_a_joining_goes_into_it(self):
        room = room_with(2, ("put", "a", "oo", 0), ("found", "a", 1, "x"), ("aged", "a", 3), ("join", "b", "a", "a", 1))
        self.assertTold(room.takes(), [("ox", 3), ("ox", 4)])

    def test_an_age_holds_for_all_that_was_joined(self):
        ages = lambda: [self.room.age(name) for name in "abcde"]
        self.assertTold(ages(), [0, 2, 3, 4, 5])
        self.assertIsNone(self.room.aged("a", 20))
        self.assertTold(ages(), [20, 2, 21, 22, 23])
        self.room.aged("b", 7)
        self.assertTold(ages(), [20, 7, 21, 22, 23])
        self.room.aged("a", 0)
        self.assertTold(ages(), [0, 7, 8, 9, 10])
        self.room.aged("b", 0)
        self.assertTold(ages(), [0, 0, 1, 2, 3])

    def test_the_edges_of_the_song(self):
        room = room_with(40, ("put", "a", "o" * 40, 0), ("found", "a", 0, "x"), ("found", "a", 39, "x"))
        self.assertTold(room.bars("a"), "x" + "o" * 38 + "x")
        single = room_with(1, ("put", "a", "x", 0), ("found", "a", 0, "o"))
        self.assertTold(single.bars("a"), "o")

    def test_bars_that_are_none(self):
        for bar in (-1, 4, 5, -4, FAR, -FAR, 10 ** 6000):
            for name in "ae":
                self.assertLeft(self.room, BadBar, self.room.found, name, bar, "x")

    def test_signs_that_are_none(self):
        for sign in ("", "ox", "oo", "O", "X", "0", " ", "o\n", "xo", "y"):
            for name in "ae":
                self.assertLeft(self.room, BadBars, self.room.found, name, 0, sign)


class Dropping(Case):
    def setUp(self):
        self.room = room_with(
            2, ("put", "a", "ox", 0), ("put", "b", "xo", 0), ("put", "c", "oo", 9), ("join", "d", "a", "b", 1),
            ("join", "e", "d", "c", 1),
        )

    def test_needed_and_needed_no_longer(self):
        room = self.room
        for name in "abcd":
            self.assertLeft(room, Needed, room.drop, name)
        self.assertIsNone(room.drop("e"))
        for name in "ab":
            self.assertLeft(room, Needed, room.drop, name)
        room.drop("c")
        self.assertTold(room.names(), ["a", "b", "d"])
        room.drop("d")
        room.drop("a")
        self.assertTold(room.names(), ["b"])
        room.drop("b")
        self.assertTold(room.takes(), [])

    def test_dropped_takes_are_not_there(self):
        room = self.room
        room.drop("e")
        for ask in (room.bars, room.age, room.parts, room.drop):
            self.assertLeft(room, NoTake, ask, "e")
        self.assertLeft(room, NoTake, room.source, "e", 0)
        self.assertLeft(room, NoTake, room.found, "e", 0, "o")
        self.assertLeft(room, NoTake, room.aged, "e", 0)
        self.assertLeft(room, NoTake, room.join, "f", "e", "a", 1)
        self.assertLeft(room, NoTake, room.join, "f", "a", "e", 1)

    def test_a_dropped_name_put_again_is_the_last(self):
        room = room_with(2, ("put", "a", "ox", 0), ("put", "b", "xo", 1), ("drop", "a"), ("put", "a", "oo", 2))
        self.assertTold(room.names(), ["b", "a"])
        self.assertTold(room.takes(), [("xo", 1), ("oo", 2)])

    def test_a_dropped_name_may_be_another_kind(self):
        room = self.room
        room.drop("e")
        room.put("e", "xx", 20)
        self.assertTold(room.takes()[-1], ("xx", 20))
        self.assertIsNone(room.parts("e"))
        room.aged("e", 1)
        room.drop("c")
        room.join("c", "e", "d", 1)
        self.assertTold(room.names(), ["a", "b", "d", "e", "c"])
        self.assertTold(room.parts("c"), ("e", "d", 1))
        self.assertTold(room.takes()[-1], ("xo", 2))
        room.found("c", 1, "x")
        self.assertTold(room.bars("b"), "xx")

    def test_a_take_joined_of_itself_twice(self):
        room = room_with(2, ("put", "a", "ox", 0), ("join", "b", "a", "a", 1))
        self.assertLeft(room, Needed, room.drop, "a")
        room.drop("b")
        room.drop("a")
        self.assertTold(room.names(), [])


class Shelf(Case):
    def looks_good(self, room):
        shelf = room.size(), room.cuts(), room.takes()
        self.assertIs(good_answer(*shelf, room.answer()), True)
        least = least_age(*shelf)
        few = None if least is None else fewest(*shelf, least)
        self.assertTold(room.least(), least)
        self.assertTold(room.few(), few)
        self.assertTold(room.after([]), None if least is None else (least, few))

    def test_no_take(self):
        for size in (1, 2, 40):
            room = Room(size)
            self.assertTold(room.answer(), ("bar", 0, 1))
            self.assertIsNone(room.least())
            self.assertIsNone(room.few())
            self.assertIsNone(room.after([]))

    def test_a_bar_that_none_has_clean(self):
        room = room_with(4, ("put", "a", "ooxo", 0), ("put", "b", "xoxo", 0), ("shut", 3))
        self.assertTold(room.answer(), ("bar", 2, 4))
        self.assertIsNone(room.least())
        self.assertIsNone(room.few())
        room.free(3)
        self.assertTold(room.answer(), ("bar", 2, 3))

    def test_a_clean_take(self):
        room = room_with(2, ("put", "a", "ox", 0), ("put", "b", "oo", 3))
        self.assertTold(room.answer()[:2], ("make", 1))
        self.assertTold((room.least(), room.few()), (3, 0))
        self.looks_good(room)

    def test_joinings_wanted(self):
        room = room_with(6, ("put", "a", "ooxxxx", 0), ("put", "b", "xxooxx", 0), ("put", "c", "xxxxoo", 2))
        self.assertTold(room.answer()[:2], ("make", (4, (2, 0, 1), 2)))
        self.assertTold((room.least(), room.few()), (3, 2))
        self.assertTold(room.after([]), (3, 2))
        self.looks_good(room)

    def test_shut_places_are_no_cuts(self):
        room = room_with(3, ("put", "a", "oox", 0), ("put", "b", "xoo", 0))
        self.assertTold((room.least(), room.few()), (1, 1))
        room.shut(1)
        self.assertTold(room.answer()[:2], ("make", (2, 0, 1)))
        room.shut(2)
        self.assertTold(room.answer(), ("bar", 0, 3))
        self.assertIsNone(room.least())
        room.free(1)
        self.assertTold(room.answer()[:2], ("make", (1, 0, 1)))

    def test_takes_joined_at_a_place_shut_since(self):
        room = room_with(2, ("put", "a", "ox", 0), ("put", "b", "xo", 0), ("join", "c", "a", "b", 1), ("shut", 1))
        self.assertTold(room.answer()[:2], ("make", 2))
        self.assertTold((room.least(), room.few()), (1, 0))

    def test_what_is_found_counts(self):
        room = room_with(2, ("put", "a", "ox", 0), ("put", "b", "xo", 0), ("join", "c", "a", "b", 1))
        room.found("c", 1, "x")
        self.assertTold(room.answer(), ("bar", 1, 2))
        room.found("a", 1, "o")
        self.assertTold(room.answer()[:2], ("make", 0))
        room.aged("a", 5)
        self.assertTold((room.least(), room.few()), (5, 0))

    def test_all_kinds_of_rooms(self):
        shelves = list(small_shelves())[::23] + list(drawn_shelves(30, 81)) + list(joined_shelves(30, 82))
        for room in list(shelf_rooms(shelves)) + list(drawn_rooms(40, 83)):
            self.looks_good(room)

    def test_wide_rooms(self):
        shelves = [(size, cuts, [(bars, age % 21) for bars, age in takes]) for size, cuts, takes in wide_shelves()]
        for room in shelf_rooms(shelves[::5]):
            self.looks_good(room)


class Apart(Case):
    def test_what_is_told_can_be_changed(self):
        rooms = [room_with(
            4, ("put", "a", "ooxx", 0), ("put", "b", "xxoo", 0), ("join", "c", "a", "b", 2), ("shut", 1),
            ("aged", "b", 3), ("drop", "c"), ("free", 1), ("shut", 3),
        )]
        rooms[0].undo()
        rooms[0].undo()
        rooms.append(Room(3))
        rooms.extend(drawn_rooms(20, 91))
        for room in rooms:
            before = asked(room)
            questions = [room.names, room.cuts, room.takes, room.deeds, room.ahead, room.answer]
            for ask in questions:
                told = ask()
                lists = lists_in([told, ask(), ask()])
                self.assertEqual(len(set(id(one) for one in lists)), len(lists))
                spoil(told)
                self.assertTold(asked(room), before)

    def test_kinds(self):
        for room in drawn_rooms(20, 92):
            self.assertTrue(all(type(row) is tuple for row in room.deeds() + room.ahead()))
            self.assertTrue(all(type(take) is tuple and type(take[1]) is int for take in room.takes()))
            self.assertTrue(all(type(place) is int for place in room.cuts()))

    def test_deeds_handed_in(self):
        deeds = [("put", "a", "ox", 0), ("put", "b", "xo", 0), ("join", "c", "a", "b", 1)]
        room = Room(2)
        self.assertTold(room.after(deeds), (1, 0))
        self.assertTold(deeds, [("put", "a", "ox", 0), ("put", "b", "xo", 0), ("join", "c", "a", "b", 1)])
        deeds.clear()
        self.assertTold(room.deeds(), [])
        self.assertIsNone(room.after(deeds))


if __name__ == "__main__":
    unittest.main()
