import itertools
import unittest

from hissroom.bars import bars_of, is_bars, joined, runs
from hissroom.errors import BadBars, HissError
from tests.helper import Case, all_bars

HUGE = 10 ** 20


class IsBars(Case):
    def test_good_ones(self):
        for size, text in [(1, "o"), (1, "x"), (4, "oxxo"), (40, "o" * 40), (40, "x" * 40), (40, "ox" * 20)]:
            with self.subTest(text):
                self.assertIs(is_bars(size, text), True)

    def test_all_small_ones(self):
        for size in range(1, 6):
            for text in all_bars(size):
                self.assertIs(is_bars(size, text), True)
                self.assertIs(is_bars(size + 1, text), False)
                self.assertIs(is_bars(size - 1, text), False)

    def test_one_sign_too_long_or_short(self):
        for size, text in [(1, "oo"), (1, ""), (2, "o"), (2, "oxo"), (40, "o" * 39), (40, "o" * 41), (40, "")]:
            with self.subTest(text):
                self.assertIs(is_bars(size, text), False)

    def test_other_signs(self):
        for text in ["O", "X", "0", " ", "\n", "~", "-"]:
            with self.subTest(text):
                self.assertIs(is_bars(1, text), False)
        for text in ["Oxo", "oXo", "ox ", " ox", "ox\n", "\nox", "o\no", "oxy", "abc", "ooa"]:
            with self.subTest(text):
                self.assertIs(is_bars(3, text), False)

    def test_a_line_feed_behind_good_bars(self):
        self.assertIs(is_bars(2, "ox\n"), False)
        self.assertIs(is_bars(3, "ox\n"), False)


class Runs(Case):
    def test_ordinary(self):
        self.assertTold(runs("ooxxoxo"), [(0, 2), (4, 5), (6, 7)])
        self.assertTold(runs("xoooxoox"), [(1, 4), (5, 7)])

    def test_edges(self):
        self.assertTold(runs("o"), [(0, 1)])
        self.assertTold(runs("x"), [])
        self.assertTold(runs("o" * 40), [(0, 40)])
        self.assertTold(runs("x" * 40), [])
        self.assertTold(runs("oo" + "x" * 38), [(0, 2)])
        self.assertTold(runs("x" * 38 + "oo"), [(38, 40)])
        self.assertTold(runs("ox" * 20), [(at, at + 1) for at in range(0, 40, 2)])
        self.assertTold(runs("xo" * 20), [(at, at + 1) for at in range(1, 40, 2)])

    def test_by_the_words_of_the_point(self):
        for size in range(1, 9):
            for text in all_bars(size):
                wanted = []
                for first, behind in itertools.combinations(range(size + 1), 2):
                    clean = "x" not in text[first:behind]
                    if clean and text[first - 1:first] != "o" and text[behind:behind + 1] != "o":
                        wanted.append((first, behind))
                self.assertTold(runs(text), wanted)

    def test_told_anew(self):
        self.assertKeepsApart(runs, "ooxo")
        self.assertIsNot(runs("ooxo"), runs("ooxo"))


class BarsOf(Case):
    def test_ordinary(self):
        self.assertTold(bars_of(7, [(0, 2), (4, 5), (6, 7)]), "ooxxoxo")
        self.assertTold(bars_of(8, [(1, 4), (5, 7)]), "xoooxoox")

    def test_edges(self):
        self.assertTold(bars_of(1, []), "x")
        self.assertTold(bars_of(1, [(0, 1)]), "o")
        self.assertTold(bars_of(40, []), "x" * 40)
        self.assertTold(bars_of(40, [(0, 40)]), "o" * 40)
        self.assertTold(bars_of(40, [(0, 1)]), "o" + "x" * 39)
        self.assertTold(bars_of(40, [(39, 40)]), "x" * 39 + "o")
        self.assertTold(bars_of(3, [(0, 1), (2, 3)]), "oxo")

    def test_back_from_runs(self):
        for size in range(1, 9):
            for text in all_bars(size):
                self.assertTold(bars_of(size, runs(text)), text)

    def test_told_of_two_runs_just_where_they_are_runs(self):
        pairs = list(itertools.product(range(-1, 5), repeat=2))
        for size in (1, 2, 3):
            good = [runs(text) for text in all_bars(size)]
            for many in (0, 1, 2):
                for rows in itertools.product(pairs, repeat=many):
                    if list(rows) in good:
                        self.assertTold(runs(bars_of(size, list(rows))), list(rows))
                    else:
                        self.assertRefuses(BadBars, bars_of, size, list(rows))

    def test_refused(self):
        wrong = {
            "touch": [(0, 2), (2, 4)],
            "overlap": [(0, 3), (2, 5)],
            "one in the other": [(0, 5), (1, 2)],
            "twice the same": [(1, 2), (1, 2)],
            "falling": [(4, 6), (0, 2)],
            "empty": [(2, 2)],
            "empty at the start": [(0, 0)],
            "empty at the end": [(6, 6)],
            "empty behind another": [(0, 2), (4, 4)],
            "turned about": [(4, 2)],
            "turned about behind another": [(0, 1), (5, 3)],
            "below 0": [(-1, 2)],
            "all below 0": [(-3, -1)],
            "below 0 behind another": [(0, 2), (-3, 1)],
            "beyond the size": [(4, 7)],
            "begins at the size": [(6, 7)],
            "begins beyond the size": [(8, 9)],
            "the last one goes beyond": [(0, 2), (3, 4), (5, 7)],
            "touch at the last": [(0, 1), (2, 3), (3, 4)],
            "the middle one is empty": [(0, 1), (2, 2), (4, 5)],
        }
        for name, rows in wrong.items():
            with self.subTest(name):
                self.assertRefuses(BadBars, bars_of, 6, rows)

    def test_refused_at_the_edges_of_the_size(self):
        self.assertRefuses(BadBars, bars_of, 1, [(0, 2)])
        self.assertRefuses(BadBars, bars_of, 1, [(1, 2)])
        self.assertRefuses(BadBars, bars_of, 40, [(0, 41)])
        self.assertRefuses(BadBars, bars_of, 40, [(-1, 40)])

    def test_numbers_of_any_size(self):
        for rows in [
            [(0, HUGE)], [(HUGE, HUGE + 1)], [(-HUGE, 2)], [(-HUGE, HUGE)], [(HUGE, 2)], [(2, -HUGE)],
            [(0, 1), (2, HUGE)], [(0, 1), (HUGE, HUGE + 1)], [(0, 1), (-HUGE, 3)], [(0, 10 ** 5000)],
            [(-10 ** 5000, 1)], [(10 ** 5000, 1)],
        ]:
            self.assertRefuses(BadBars, bars_of, 6, rows)

    def test_the_refusal_is_a_hiss_error_and_a_value_error(self):
        for kind in (BadBars, HissError, ValueError):
            with self.assertRaises(kind):
                bars_of(3, [(0, 4)])

    def test_rows_stay_as_they_were(self):
        self.assertKeepsApart(bars_of, 7, [(0, 2), (4, 5)])
        self.assertKeepsApart(bars_of, 7, [])


class Join(Case):
    def test_ordinary(self):
        self.assertTold(joined(("oooo", 3), ("xxxx", 1), 1), ("oxxx", 4))
        self.assertTold(joined(("oooo", 1), ("xxxx", 3), 3), ("ooox", 4))
        self.assertTold(joined(("oxox", 2), ("xxoo", 2), 2), ("oxoo", 3))

    def test_edges(self):
        self.assertTold(joined(("ox", 0), ("xo", 0), 1), ("oo", 1))
        self.assertTold(joined(("o" * 40, 60), ("x" * 40, 0), 39), ("o" * 39 + "x", 61))
        self.assertTold(joined(("o" * 40, 0), ("x" * 40, 60), 1), ("o" + "x" * 39, 61))
        self.assertTold(joined(("o" * 40, 60), ("x" * 40, 60), 20), ("o" * 20 + "x" * 20, 61))

    def test_with_itself_only_the_age_is_another(self):
        take = ("oxxo", 5)
        self.assertTold(joined(take, take, 2), ("oxxo", 6))

    def test_bar_by_bar(self):
        for one in all_bars(4):
            for other in all_bars(4):
                for place in (1, 2, 3):
                    bars = "".join(one[bar] if bar < place else other[bar] for bar in range(4))
                    self.assertTold(joined((one, 2), (other, 7), place), (bars, 8))

    def test_a_place_beyond_either_end(self):
        for place in (0, -1, -3):
            self.assertTold(joined(("ooo", 0), ("xxx", 0), place), ("xxx", 1))
        for place in (3, 4):
            self.assertTold(joined(("ooo", 0), ("xxx", 0), place), ("ooo", 1))

    def test_told_again(self):
        self.assertKeepsApart(joined, ("oox", 1), ("xoo", 4), 2)


if __name__ == "__main__":
    unittest.main()
