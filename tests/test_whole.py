"""What holds over the whole program."""

import unittest

from hissroom import errors
from hissroom.bars import bars_of
from hissroom.course import Course
from hissroom.ends import bar_of
from hissroom.errors import HissError
from hissroom.few import best_of, count_best, number_of
from hissroom.looker import good_answer
from hissroom.makes import joinings, made, make_of, make_text
from hissroom.room import Room
from hissroom.sheets import room_of, sheet
from tests.helper import (
    Case,
    drawn_rooms,
    drawn_shelves,
    joined_shelves,
    room_with,
    shelf_rooms,
    stretches,
    wide_shelves,
)

LETTERS = "abcdefghijklmnopqrst"


def worn():
    return room_with(2, ("put", "a", "ox", 0), ("put", "b", "xo", 0), ("join", "c", "a", "b", 1))


REFUSALS = {
    "BadBars": lambda: bars_of(2, [(0, 1), (1, 2)]),
    "BadMake": lambda: made(2, [1], [("oo", 0)], (1, 0, 1)),
    "BadNumber": lambda: best_of(2, [1], [("oo", 0)], 1),
    "BadText": lambda: make_of("(0 1)"),
    "BadName": lambda: worn().put("B", "oo", 0),
    "BadAge": lambda: worn().aged("a", 21),
    "BadBar": lambda: worn().source("a", 2),
    "BadPlace": lambda: worn().shut(2),
    "Taken": lambda: worn().put("c", "oo", 0),
    "Full": lambda: room_with(1, *[("put", letter, "o", 0) for letter in LETTERS]).put("u", "o", 0),
    "NoTake": lambda: worn().bars("d"),
    "Shut": lambda: room_with(2, ("put", "a", "ox", 0), ("shut", 1)).join("b", "a", "a", 1),
    "Joined": lambda: worn().aged("c", 0),
    "Needed": lambda: worn().drop("a"),
    "NothingLeft": lambda: Course(worn()).step("d"),
    "BadSize": lambda: Room(41),
    "NoWay": lambda: Course(Room(3)).step("d"),
}


class Refusals(unittest.TestCase):
    def test_there_are_seventeen(self):
        under = [name for name, kind in vars(errors).items() if isinstance(kind, type) and kind is not HissError]
        self.assertEqual(sorted(under), sorted(REFUSALS))
        self.assertEqual(len(REFUSALS), 17)

    def test_each_is_called_forth_as_its_own_class(self):
        for name, call in REFUSALS.items():
            with self.subTest(name):
                with self.assertRaises(HissError) as caught:
                    call()
                self.assertIs(type(caught.exception), getattr(errors, name))
                self.assertEqual(type(caught.exception).__bases__, (HissError,))


class AnswersInRooms(Case):
    def joins(self, room):
        """Joins what a told answer says deed by deed, its parts ahead of the whole; the last take is what it tells."""
        told = room.answer()
        shelf = room.size(), room.cuts(), room.takes()
        self.assertIs(good_answer(*shelf, told), True)
        names, letters = room.names(), iter("abcdefghijklmnopqrstuvwxyz")

        def join(make):
            if isinstance(make, int):
                return names[make]
            place, left, right = make
            one, other = join(left), join(right)
            new = "new" + next(letters)
            room.join(new, one, other, place)
            return new

        age = made(*shelf, told[1])[1]
        last = join(told[1])
        self.assertTold((room.bars(last), room.age(last)), ("o" * room.size(), age))
        self.assertTold(room.few(), 0)
        self.assertTold(room.least(), age)
        self.assertTold(sheet(room_of(sheet(room))), sheet(room))

    def test_a_told_make_is_joined(self):
        shelves = list(drawn_shelves(60, 31)) + list(joined_shelves(60, 32))
        shelves += [stretches(many, 3, 2) for many in range(1, 11)]
        shelves += [(size, cuts, [(bars, 0) for bars, age in takes[:9]]) for size, cuts, takes in wide_shelves()]
        many = 0
        for room in list(shelf_rooms(shelves)) + list(drawn_rooms(60, 33)):
            told = room.answer()
            if told[0] == "bar":
                self.assertTold(told[1:], bar_of(room.size(), room.cuts(), room.takes()))
            elif joinings(told[1]) + len(room.names()) <= 20:
                self.joins(room)
                many += 1
        self.assertGreater(many, 80)

    def test_best_makes_of_rooms(self):
        for room in list(shelf_rooms(joined_shelves(20, 34))) + list(drawn_rooms(20, 35)):
            shelf = room.size(), room.cuts(), room.takes()
            told = room.answer()
            if told[0] == "make":
                self.assertEqual(joinings(told[1]), room.few())
                self.assertLess(number_of(*shelf, told[1]), count_best(*shelf))
                self.assertTold(make_of(make_text(told[1])), told[1])
            else:
                self.assertEqual(count_best(*shelf), 0)


if __name__ == "__main__":
    unittest.main()
