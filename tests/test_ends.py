import unittest

from hissroom.ends import bar_of, ends, farthest
from tests.helper import Case, all_bars, all_cuts, drawn_shelves, small_shelves

ALL_PLACES = list(range(1, 40))


class Ends(Case):
    def test_ordinary(self):
        self.assertTold(ends(9, [2, 3, 7]), [0, 2, 3, 7, 9])

    def test_edges(self):
        self.assertTold(ends(1, []), [0, 1])
        self.assertTold(ends(40, []), [0, 40])
        self.assertTold(ends(2, [1]), [0, 1, 2])
        self.assertTold(ends(40, [1, 39]), [0, 1, 39, 40])
        self.assertTold(ends(40, ALL_PLACES), list(range(41)))

    def test_told_anew(self):
        self.assertKeepsApart(ends, 9, [2, 3, 7])
        self.assertKeepsApart(ends, 9, [])
        cuts = [2, 3]
        self.assertIsNot(ends(9, cuts), ends(9, cuts))

    def test_a_later_change_of_the_cuts_is_a_new_question(self):
        cuts = [2]
        before = ends(9, cuts)
        cuts.append(5)
        self.assertTold(before, [0, 2, 9])
        self.assertTold(ends(9, cuts), [0, 2, 5, 9])


class Farthest(Case):
    def test_ordinary(self):
        cuts = [2, 3, 7]
        text = "oooooxxoo"
        self.assertTold([farthest(9, cuts, text, end) for end in (0, 2, 3, 7, 9)], [3, 3, 3, 9, 9])

    def test_just_up_to_an_end(self):
        self.assertTold(farthest(6, [2, 4], "ooooxx", 0), 4)
        self.assertTold(farthest(6, [2, 4], "oooxxx", 0), 2)
        self.assertTold(farthest(6, [2, 4], "oxoooo", 0), 0)
        self.assertTold(farthest(6, [2, 4], "xxoooo", 2), 6)

    def test_what_is_ahead_of_the_end_is_no_matter(self):
        self.assertTold(farthest(6, [2, 4], "oxoooo", 2), 6)
        self.assertTold(farthest(6, [2, 4], "xxxxoo", 4), 6)

    def test_the_next_bar_is_spoilt(self):
        self.assertTold(farthest(6, [2, 4], "ooxooo", 2), 2)

    def test_the_size(self):
        for text in ("oooooo", "xxxxxx"):
            self.assertTold(farthest(6, [2, 4], text, 6), 6)

    def test_no_cuts(self):
        self.assertTold(farthest(1, [], "o", 0), 1)
        self.assertTold(farthest(1, [], "x", 0), 0)
        self.assertTold(farthest(1, [], "x", 1), 1)
        self.assertTold(farthest(40, [], "o" * 40, 0), 40)
        self.assertTold(farthest(40, [], "o" * 39 + "x", 0), 0)

    def test_all_places(self):
        text = "o" * 17 + "x" + "o" * 22
        wanted = [17] * 18 + [40] * 23
        self.assertTold([farthest(40, ALL_PLACES, text, end) for end in range(41)], wanted)
        self.assertTold(farthest(40, ALL_PLACES, "o" * 40, 0), 40)
        self.assertTold(farthest(40, ALL_PLACES, "x" * 40, 39), 39)

    def test_by_the_words_of_the_interface(self):
        for size in range(1, 6):
            for cuts in all_cuts(size):
                places = [0] + cuts + [size]
                for text in all_bars(size):
                    for end in places:
                        wanted = max(far for far in places if far >= end and "x" not in text[end:far])
                        self.assertTold(farthest(size, cuts, text, end), wanted)

    def test_cuts_stay_as_they_were(self):
        self.assertKeepsApart(farthest, 6, [2, 4], "ooooxx", 0)


class BarOf(Case):
    def test_ordinary(self):
        self.assertTold(bar_of(6, [2, 4], [("ooxxxx", 0), ("xxxxoo", 3)]), (2, 4))
        self.assertTold(bar_of(6, [2, 4], [("ooxxxx", 0), ("xxooxx", 3), ("xxxxoo", 9)]), None)

    def test_the_first_one_of_several(self):
        self.assertTold(bar_of(6, [2, 4], [("xxxxxx", 0)]), (0, 2))
        self.assertTold(bar_of(6, [2, 4], [("ooxxxx", 0)]), (2, 4))
        self.assertTold(bar_of(6, [2, 4], [("ooooox", 0)]), (4, 6))

    def test_each_bar_is_clean_somewhere_but_no_take_has_the_piece(self):
        self.assertTold(bar_of(4, [2], [("oxoo", 0), ("xooo", 0)]), (0, 2))
        self.assertTold(bar_of(4, [1, 2], [("oxoo", 0), ("xooo", 0)]), None)

    def test_no_takes(self):
        self.assertTold(bar_of(1, [], []), (0, 1))
        self.assertTold(bar_of(40, [], []), (0, 40))
        self.assertTold(bar_of(40, ALL_PLACES, []), (0, 1))

    def test_twenty_takes(self):
        takes = [("x" * at + "o" + "x" * (19 - at), at) for at in range(20)]
        self.assertTold(bar_of(20, list(range(1, 20)), takes), None)
        self.assertTold(bar_of(20, list(range(1, 20)), takes[:-1]), (19, 20))
        self.assertTold(bar_of(20, list(range(1, 20)), takes[1:]), (0, 1))
        self.assertTold(bar_of(20, list(range(2, 20)), takes), (0, 2))

    def test_takes_that_are_alike(self):
        self.assertTold(bar_of(2, [1], [("ox", 4), ("ox", 4)]), (1, 2))
        self.assertTold(bar_of(2, [1], [("oo", 4), ("oo", 4)]), None)

    def test_ages_are_no_matter(self):
        self.assertTold(bar_of(2, [1], [("ox", 60), ("xo", 0)]), None)

    def test_no_cuts(self):
        self.assertTold(bar_of(40, [], [("o" * 39 + "x", 0), ("x" + "o" * 39, 0)]), (0, 40))
        self.assertTold(bar_of(40, [], [("o" * 40, 0)]), None)

    def test_by_the_words_of_the_point(self):
        for size, cuts, takes in list(small_shelves()) + list(drawn_shelves(100, 8)):
            places = [0] + cuts + [size]
            spoilt = [
                (first, behind) for first, behind in zip(places, places[1:])
                if not any(set(bars[first:behind]) == {"o"} for bars, age in takes)
            ]
            self.assertTold(bar_of(size, cuts, takes), spoilt[0] if spoilt else None)

    def test_lists_stay_as_they_were(self):
        self.assertKeepsApart(bar_of, 6, [2, 4], [("ooxxxx", 0), ("xxxxoo", 3)])
        self.assertKeepsApart(bar_of, 6, [2, 4], [("oooooo", 0)])


if __name__ == "__main__":
    unittest.main()
