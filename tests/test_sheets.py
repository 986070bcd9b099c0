import unittest

from hissroom.errors import BadText, NothingLeft
from hissroom.room import Room
from hissroom.sheets import room_of, sheet
from tests.helper import Case, asked, drawn_rooms, room_with

TEXT = """song 4
put a ooxx 0
put b xxoo 20
join c a b 2
found c 3 x
aged b 10
free 1
shut 1
put longname oooo 3
drop c
join d a a 3"""
DEEDS = (
    ("put", "a", "ooxx", 0), ("put", "b", "xxoo", 20), ("join", "c", "a", "b", 2), ("found", "c", 3, "x"),
    ("aged", "b", 10), ("free", 1), ("shut", 1), ("put", "longname", "oooo", 3), ("drop", "c"),
    ("join", "d", "a", "a", 3),
)


class Writing(Case):
    def test_empty_rooms(self):
        for size in (1, 9, 10, 40):
            self.assertTold(sheet(Room(size)), f"song {size}")

    def test_every_kind_of_deed(self):
        self.assertTold(sheet(room_with(4, *DEEDS)), TEXT)

    def test_kept_deeds_alone(self):
        room = room_with(4, *DEEDS)
        rows = TEXT.split("\n")
        for many in range(len(DEEDS), 0, -1):
            room.undo()
            before = asked(room)
            self.assertTold(sheet(room), "\n".join(rows[:many]))
            self.assertTold(asked(room), before)
        for many in range(len(DEEDS)):
            room.redo()
            self.assertTold(sheet(room), "\n".join(rows[:many + 2]))

    def test_deeds_that_change_nothing(self):
        room = room_with(2, ("put", "a", "ox", 0), ("found", "a", 0, "o"), ("aged", "a", 0), ("free", 1), ("free", 1))
        self.assertTold(sheet(room), "song 2\nput a ox 0\nfound a 0 o\naged a 0\nfree 1\nfree 1")


class Reading(Case):
    def reads(self, room):
        """The read room is as the one that was written, but for what was undone there."""
        text = sheet(room)
        read = room_of(text)
        self.assertIs(type(read), Room)
        wanted = room_with(room.size(), *room.deeds())
        self.assertTold(asked(read), asked(wanted))
        self.assertTold(asked(read)[3:], asked(room)[3:])
        self.assertTold(read.ahead(), [])
        self.assertRefuses(NothingLeft, read.redo)
        self.assertTold(sheet(read), text)
        while wanted.deeds():
            self.assertTold(read.undo(), wanted.undo())
            self.assertTold(asked(read), asked(wanted))
        self.assertRefuses(NothingLeft, read.undo)

    def test_rooms_of_all_kinds(self):
        rooms = [Room(1), Room(40), room_with(4, *DEEDS), room_with(40, ("put", "a", "ox" * 20, 20), ("shut", 39))]
        for room in rooms + list(drawn_rooms(40, 51)):
            self.reads(room)

    def test_the_text_itself(self):
        room = room_of(TEXT)
        self.assertTold(room.deeds(), list(DEEDS))
        self.assertTold(sheet(room), TEXT)
        self.assertTold(room.takes(), [("ooxx", 0), ("xxox", 10), ("oooo", 3), ("ooxx", 1)])

    def test_rooms_are_apart(self):
        one, other = room_of(TEXT), room_of(TEXT)
        one.undo()
        one.shut(3)
        self.assertTold(other.deeds(), list(DEEDS))
        self.assertTold(room_of(TEXT).deeds(), list(DEEDS))

    def test_many_deeds(self):
        text = "song 40" + "\nshut 39\nfree 39" * 1000
        room = room_of(text)
        self.assertEqual(len(room.deeds()), 2000)
        self.assertTold(sheet(room), text)


class Refused(Case):
    def no_text(self, *texts):
        for text in texts:
            with self.subTest(text):
                self.assertRefuses(BadText, room_of, text)

    def test_the_first_row(self):
        self.no_text(
            "", "\n", " ", "song", "song ", "song  4", " song 4", "song 4 ", "Song 4", "song4", "song 4 4", "song four",
            "song -4", "song +4", "song 4.0", "song 04", "song 00004", "song 0", "song 00", "song 41", "song 9999",
            "song 10000", "song 100000000000000000000", "song " + "9" * 5000, "songs 4", "song\t4", "song 0x4", "4",
            "put a oo 0", "free 1", "sheet 4", "song 1_0", "song o", "song (4)",
        )

    def test_line_feeds(self):
        self.no_text(
            "song 4\n", "\nsong 4", "song 4\n\n", TEXT + "\n", "\n" + TEXT, TEXT.replace("\n", "\n\n", 1),
            TEXT.replace("join", "\njoin", 1), TEXT.replace("\n", " "), TEXT.replace("\n", "\r\n"),
            "song 4\n \nfree 1", "song 4\nfree 1 shut 1", "song\n4",
        )

    def test_blanks(self):
        rows = TEXT.split("\n")
        for at, row in enumerate(rows):
            words = row.split(" ")
            for wrong in [" " + row, row + " ", row.replace(" ", "  ", 1), row.replace(" ", "", 1), row + "\t"]:
                self.no_text("\n".join(rows[:at] + [wrong] + rows[at + 1:]))
            for gap in range(1, len(words)):
                wide = " ".join(words[:gap]) + "  " + " ".join(words[gap:])
                narrow = " ".join(words[:gap]) + " ".join(words[gap:])
                tab = " ".join(words[:gap]) + "\t" + " ".join(words[gap:])
                self.no_text(*["\n".join(rows[:at] + [wrong] + rows[at + 1:]) for wrong in (wide, narrow, tab)])

    def test_things_too_many_or_too_few(self):
        rows = TEXT.split("\n")
        for at, row in enumerate(rows):
            words = row.split(" ")
            for wrong in [words + ["a"], words + ["1"], words + [words[-1]], words[:-1], words[:1]]:
                self.no_text("\n".join(rows[:at] + [" ".join(wrong)] + rows[at + 1:]))

    def test_words_that_are_no_deeds(self):
        for word in ("", "Put", "song", "undo", "redo", "make", "a", "puts", "pu", "deed", "size", "0"):
            self.no_text(f"song 4\n{word}", f"song 4\n{word} 1", f"song 4\n{word} 4", f"song 4\n{word} a",
                         f"song 4\n{word} a oooo 0", f"song 4\nput a oooo 0\n{word} b a a 1")

    def test_the_song_told_again(self):
        self.no_text("song 4\nsong 4", "song 4\nput a oooo 0\nsong 4", "song 4\nsong 3\nfree 1")

    def test_figures(self):
        good = (
            "song 40\nput a {} 7", "song 40\nput a {} 0\nput b {} 0\njoin c a b 7",
            "song 40\nput a {} 0\nfound a 7 x", "song 40\nput a {} 0\naged a 7", "song 40\nfree 7", "song 40\nshut 7",
        )
        for text in good:
            text = text.replace("{}", "ox" * 20)
            self.assertTold(sheet(room_of(text)), text)
            at = text.rindex("7")
            for figures in (
                "07", "007", "0007", "00007", "+7", "-7", "7.", "7.0", "7e0", "seven", "x", "o", "", "00", "10000",
                "9999", "12345", "9" * 5000, "0x7", "7_7", "1_0", "(7)", "a", "7,", "'7'",
            ):
                self.no_text(text[:at] + figures + text[at + 1:])

    def test_deeds_that_would_be_refused(self):
        start = "song 4\nput a ooxx 0\nput b xxoo 0\njoin c a b 2\nshut 3\n"
        self.assertTold(sheet(room_of(start + "free 3")), start + "free 3")
        for row in (
            "put A oooo 0", "put ninethree oooo 0", "put a1 oooo 0", "put a oooo 0", "put c oooo 0", "put d ooo 0",
            "put d ooooo 0", "put d oooy 0", "put d oooo 21", "join D a b 1", "join a a b 1", "join d e b 1",
            "join d a e 1", "join d a b 0", "join d a b 4", "join d a b 3", "found d 0 o", "found a 4 o",
            "found a 0 y", "found a 0 oo", "aged d 0", "aged c 0", "aged a 21", "drop d", "drop a", "drop b", "free 0",
            "free 4", "shut 0", "shut 4",
        ):
            self.no_text(start + row, start + row + "\nfree 1")
        many = "song 1\n" + "\n".join(f"put {letter} o 0" for letter in "abcdefghijklmnopqrst")
        self.assertEqual(len(room_of(many).names()), 20)
        self.no_text(many + "\nput u o 0", "song 1\nfree 1", "song 1\nshut 1", "song 1\nput a o 0\njoin b a a 1")
        self.no_text("song 4\nput  oooo 0", "song 4\nput a oooo 0\nfound a 0 ", "song 4\nput a  0")

    def test_refused_for_its_order(self):
        self.no_text("song 4\ndrop a\nput a oooo 0", "song 4\njoin c a a 1\nput a oooo 0")


if __name__ == "__main__":
    unittest.main()
