import unittest

from hissroom.course import Course
from hissroom.ends import bar_of
from hissroom.errors import BadName, Full, NothingLeft, NoWay, Shut, Taken
from hissroom.few import fewest
from hissroom.reach import least_age
from hissroom.room import Room
from tests.helper import (
    Case,
    asked,
    drawn_rooms,
    drawn_shelves,
    joined_shelves,
    lists_in,
    room_with,
    shelf_rooms,
    small_shelves,
    stretches,
    told_or_refused,
    wide_shelves,
)

THREE = (("put", "a", "ooxxxx", 0), ("put", "b", "xxooxx", 0), ("put", "c", "xxxxoo", 2))
STRIPES = (("put", "a", "ox" * 20, 0), ("put", "b", "xo" * 20, 0))
# Of a young take a clean one can be joined that is younger than the clean take.
OLD_CLEAN = (("put", "a", "ox", 0), ("put", "b", "xo", 0), ("put", "c", "oo", 2))


def some_rooms():
    shelves = list(small_shelves())[::11] + list(drawn_shelves(60, 61)) + list(joined_shelves(60, 62))
    shelves += [stretches(many, many % 3) for many in range(1, 9)]
    return list(shelf_rooms(shelves)) + list(drawn_rooms(60, 63))


def names_for(many):
    return ["step" + letter for letter in "abcdefghijklmnopqrstuvwxyz"[:many]]


class Coming(Case):
    def looks_right(self, room):
        """What point 27 says, by the shelf itself; tells whether there was a joining."""
        size, cuts, takes = room.size(), room.cuts(), room.takes()
        before = asked(room)
        told = told_or_refused(room.coming)
        self.assertTold(told_or_refused(room.coming), told)
        bar = bar_of(size, cuts, takes)
        least = least_age(size, cuts, takes)
        if bar is not None:
            self.assertTold(told, ("refused", "NoWay", *bar))
        elif fewest(size, cuts, takes, least) == 0:
            self.assertTold(told, ("refused", "NothingLeft"))
        else:
            self.assertEqual(told[0], "told")
            left, right, place = told[1]
            self.assertTold(told[1], (str(left), str(right), int(place)))
            self.assertIn(place, cuts)
            (one, old), (other, older) = [takes[room.names().index(name)] for name in (left, right)]
            more = takes + [(one[:place] + other[place:], max(old, older) + 1)]
            self.assertEqual(least_age(size, cuts, more), least)
            self.assertEqual(fewest(size, cuts, more, least), fewest(size, cuts, takes, least) - 1)
        self.assertTold(asked(room), before)
        return told[0] == "told"

    def test_all_kinds_of_rooms(self):
        joinings = [self.looks_right(room) for room in some_rooms()]
        self.assertGreater(joinings.count(True), 50)
        self.assertGreater(joinings.count(False), 50)

    def test_wide_rooms_that_are_full(self):
        shelves = [(size, cuts, [(bars, age % 21) for bars, age in takes]) for size, cuts, takes in wide_shelves()]
        for room in shelf_rooms(shelves[3::4]):
            self.assertEqual(len(room.names()), 20)
            self.looks_right(room)

    def test_names_not_numbers(self):
        room = room_with(6, ("put", "zzz", "xxxxxx", 0), *THREE)
        self.assertTold(room.coming(), ("a", "b", 2))
        room.drop("zzz")
        self.assertTold(room.coming(), ("a", "b", 2))
        room.drop("a")
        room.put("q", "ooxxxx", 0)
        self.assertTold(room.coming(), ("q", "b", 2))

    def test_no_way_bears_the_bar(self):
        cases = (
            (Room(1), (0, 1)),
            (Room(40), (0, 1)),
            (room_with(4, ("put", "a", "ooxo", 0)), (2, 3)),
            (room_with(4, ("put", "a", "ooxo", 0), ("shut", 2), ("shut", 3)), (1, 4)),
            (room_with(4, ("put", "a", "ooox", 0), ("put", "b", "xxxx", 0)), (3, 4)),
            (room_with(2, ("put", "a", "ox", 0), ("put", "b", "xo", 0), ("shut", 1)), (0, 2)),
        )
        for room, bar in cases:
            self.assertLeft(room, NoWay, room.coming)
            with self.assertRaises(NoWay) as caught:
                room.coming()
            self.assertTold((caught.exception.first, caught.exception.behind), bar)

    def test_nothing_left(self):
        for deeds in (
            [("put", "a", "oo", 0)],
            [("put", "a", "oo", 20)],
            [("put", "a", "ox", 0), ("put", "b", "xo", 0), ("put", "c", "oo", 1)],
            [("put", "a", "ox", 0), ("put", "b", "xo", 0), ("join", "c", "a", "b", 1)],
            [("put", "a", "ox", 0), ("put", "b", "xo", 0), ("put", "c", "oo", 2), ("shut", 1)],
        ):
            room = room_with(2, *deeds)
            self.assertLeft(room, NothingLeft, room.coming)

    def test_a_clean_take_that_is_too_old(self):
        room = room_with(2, *OLD_CLEAN)
        self.assertTold((room.least(), room.few()), (1, 1))
        self.assertTold(room.coming(), ("a", "b", 1))
        room.aged("c", 1)
        self.assertLeft(room, NothingLeft, room.coming)

    def test_parts_of_a_best_make_and_not_any_two_takes(self):
        # Joined one behind the other it would be too old: it goes by halves.
        size, cuts, takes = stretches(8, 0)
        for room in shelf_rooms([(size, cuts, takes)]):
            for few in range(7, 0, -1):
                self.assertTold((room.least(), room.few()), (3, few))
                left, right, place = room.coming()
                room.join("n" * few, left, right, place)
            self.assertTold((room.least(), room.few()), (3, 0))


class Steps(Case):
    def test_a_course_to_its_end(self):
        room = room_with(6, *THREE)
        course = Course(room)
        self.assertTold(course.steps(), [])
        self.assertIs(course.over(), False)
        self.assertTold(course.step("d"), ("join", "d", "a", "b", 2))
        self.assertTold(room.names(), ["a", "b", "c", "d"])
        self.assertIs(course.over(), False)
        self.assertTold(course.step("e"), ("join", "e", "d", "c", 4))
        self.assertIs(course.over(), True)
        self.assertTold(course.steps(), [("join", "d", "a", "b", 2), ("join", "e", "d", "c", 4)])
        self.assertTold(room.deeds(), list(THREE) + course.steps())
        self.assertTold(room.takes()[-1], ("oooooo", 3))
        self.assertLeft(room, NothingLeft, course.step, "f")
        self.assertTold(len(course.steps()), 2)

    def test_as_many_steps_as_joinings(self):
        longest = 0
        for room in some_rooms():
            least, few = room.least(), room.few()
            if least is None or len(room.names()) + few > 20:
                continue
            course = Course(room)
            kept = room.deeds()
            for count, name in enumerate(names_for(few)):
                self.assertIs(course.over(), False)
                coming = room.coming()
                told = course.step(name)
                self.assertTold(told, ("join", name, *coming))
                self.assertTold((room.least(), room.few()), (least, few - count - 1))
                kept.append(told)
                self.assertTold(room.deeds(), kept)
                self.assertTold(room.ahead(), [])
            self.assertIs(course.over(), True)
            self.assertTold(len(course.steps()), few)
            if few:
                self.assertTold(room.takes()[-1], ("o" * room.size(), least))
            self.assertRefuses(NothingLeft, course.step, "more")
            longest = max(longest, few)
        self.assertEqual(longest, 7)

    def test_long_courses(self):
        for many, wide, age, least in ((10, 4, 0, 4), (10, 1, 20, 24), (8, 5, 3, 6)):
            for room in shelf_rooms([stretches(many, age, wide)]):
                course = Course(room)
                for name in names_for(many - 1):
                    course.step(name)
                self.assertIs(course.over(), True)
                self.assertTold(room.takes()[-1], ("o" * room.size(), least))

    def test_no_way(self):
        room = room_with(3, ("put", "a", "oox", 0))
        course = Course(room)
        self.assertIs(course.over(), False)
        for name in ("b", "a", "", "Wrong"):
            self.assertLeft(room, NoWay, course.step, name)
        with self.assertRaises(NoWay) as caught:
            course.step("b")
        self.assertTold((caught.exception.first, caught.exception.behind), (2, 3))
        self.assertTold(course.steps(), [])
        self.assertIs(Course(Room(1)).over(), False)

    def test_not_over_where_the_clean_take_is_too_old(self):
        room = room_with(2, *OLD_CLEAN)
        course = Course(room)
        self.assertIs(course.over(), False)
        self.assertTold(course.step("d"), ("join", "d", "a", "b", 1))
        self.assertIs(course.over(), True)

    def test_over_with_a_first_take(self):
        room = room_with(2, ("put", "a", "oo", 20))
        self.assertIs(Course(room).over(), True)

    def test_refusals_in_their_order(self):
        letters = "abcdefghijklmnopqrst"
        full = [("put", letter, "xx", 0) for letter in letters[2:]]
        halves = [("put", "a", "ox", 0), ("put", "b", "xo", 0)]
        # For each name what it is refused with, in a room with space and in a full one.
        names = [(name, BadName, BadName) for name in ("", "A", "nineletts", "a\n")]
        names += [("a", Taken, Taken), ("u", None, Full)]
        cases = ((halves[:1], NoWay), (halves + [("join", "c", "a", "b", 1)], NothingLeft))
        for name, with_space, without in names:
            room = room_with(2, *halves)
            if with_space is not None:
                self.assertLeft(room, with_space, Course(room).step, name)
            room = room_with(2, *halves, *full)
            self.assertEqual(len(room.names()), 20)
            self.assertLeft(room, without, Course(room).step, name)
            for deeds, wrong in cases:
                room = room_with(2, *deeds)
                self.assertLeft(room, wrong, Course(room).step, name)
                rest = [row for row in full if row[1] != "c"] + [("put", "uu", "xx", 0), ("put", "vv", "xx", 0)]
                room = room_with(2, *deeds, *rest[:20 - len(deeds)])
                self.assertLeft(room, wrong, Course(room).step, name)

    def test_a_refused_step_is_none(self):
        room = room_with(6, *THREE)
        room.shut(1)
        room.undo()
        course = Course(room)
        for wrong, name in ((BadName, "D"), (Taken, "c")):
            self.assertLeft(room, wrong, course.step, name)
        self.assertTold(course.steps(), [])
        self.assertTold(room.ahead(), [("shut", 1)])
        course.step("d")
        self.assertTold(room.ahead(), [])

    def test_a_full_room_behind_steps(self):
        room = room_with(40, *STRIPES)
        course = Course(room)
        names = names_for(18)
        for name in names:
            course.step(name)
        self.assertTold(room.few(), 39 - 18)
        self.assertLeft(room, Full, course.step, "more")
        self.assertLeft(room, Taken, course.step, "a")
        self.assertTold(len(course.steps()), 18)

    def test_steps_that_are_told_can_be_changed(self):
        room = room_with(6, *THREE)
        course = Course(room)
        course.step("d")
        told = course.steps()
        told.append("spoilt")
        self.assertTold(course.steps(), [("join", "d", "a", "b", 2)])
        lists = lists_in([course.steps(), course.steps(), room.deeds()])
        self.assertEqual(len(set(id(one) for one in lists)), len(lists))


class Others(Case):
    def setUp(self):
        self.room = room_with(6, *THREE)
        self.course = Course(self.room)

    def test_undone_steps_stay_in_the_row(self):
        self.course.step("d")
        self.assertTold(self.room.undo(), ("join", "d", "a", "b", 2))
        self.assertTold(self.course.steps(), [("join", "d", "a", "b", 2)])
        self.assertTold(self.course.step("e"), ("join", "e", "a", "b", 2))
        self.assertTold(self.course.steps(), [("join", "d", "a", "b", 2), ("join", "e", "a", "b", 2)])
        self.assertTold(self.room.names(), ["a", "b", "c", "e"])
        self.assertTold(self.room.ahead(), [])

    def test_done_again_by_others(self):
        self.course.step("d")
        self.course.step("e")
        self.room.undo()
        self.assertIs(self.course.over(), False)
        self.room.redo()
        self.assertIs(self.course.over(), True)
        self.assertTold(len(self.course.steps()), 2)

    def test_dropped_between(self):
        self.course.step("d")
        self.room.drop("d")
        self.assertTold(self.course.step("d"), ("join", "d", "a", "b", 2))
        self.course.step("e")
        self.room.drop("e")
        self.assertIs(self.course.over(), False)
        self.assertTold(self.course.step("f"), ("join", "f", "d", "c", 4))
        self.assertIs(self.course.over(), True)
        self.assertTold([row[1] for row in self.course.steps()], ["d", "d", "e", "f"])

    def test_shut_and_freed_between(self):
        self.course.step("d")
        self.room.shut(4)
        self.assertLeft(self.room, NoWay, self.course.step, "e")
        self.assertIs(self.course.over(), False)
        self.room.shut(2)
        self.room.free(4)
        self.assertTold(self.course.step("e"), ("join", "e", "d", "c", 4))
        self.room.shut(4)
        self.assertIs(self.course.over(), True)
        self.assertRefuses(Shut, self.room.join, "f", "d", "c", 4)

    def test_put_found_and_aged_between(self):
        self.course.step("d")
        self.room.found("d", 0, "x")
        self.assertLeft(self.room, NoWay, self.course.step, "e")
        self.room.put("g", "oooxxx", 1)
        self.assertTold((self.room.least(), self.room.few()), (3, 2))
        self.room.aged("c", 0)
        self.room.found("d", 0, "o")
        self.assertTold(self.course.step("e"), ("join", "e", "d", "c", 4))
        self.assertIs(self.course.over(), True)
        self.room.put("h", "oooooo", 0)
        self.assertIs(self.course.over(), True)
        self.room.found("h", 5, "x")
        self.room.aged("h", 9)
        self.assertIs(self.course.over(), True)
        self.room.aged("a", 20)
        self.room.found("c", 4, "x")
        self.assertIs(self.course.over(), False)

    def test_two_courses_in_one_room(self):
        other = Course(self.room)
        self.course.step("d")
        self.assertTold(other.steps(), [])
        self.assertTold(other.step("e"), ("join", "e", "d", "c", 4))
        self.assertTold(self.course.steps(), [("join", "d", "a", "b", 2)])
        self.assertTold(other.steps(), [("join", "e", "d", "c", 4)])
        self.assertIs(self.course.over(), True)
        self.assertIs(other.over(), True)

    def test_others_join_too(self):
        self.room.join("d", "a", "b", 2)
        self.assertTold(self.course.step("e"), ("join", "e", "d", "c", 4))
        self.assertTold(self.course.steps(), [("join", "e", "d", "c", 4)])

    def test_the_very_room_and_no_twin(self):
        twin = self.room.twin()
        before = asked(twin)
        self.course.step("d")
        self.assertTold(asked(twin), before)
        Course(twin).step("z")
        self.assertTold(self.room.names(), ["a", "b", "c", "d"])
        self.assertTold(self.course.steps(), [("join", "d", "a", "b", 2)])


if __name__ == "__main__":
    unittest.main()
