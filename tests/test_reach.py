import unittest

from hissroom.ends import bar_of, farthest
from hissroom.reach import least_age, reach
from tests.helper import Case, all_made, drawn_shelves, slow_reach, small_shelves, stretches

ALL_PLACES = list(range(1, 40))
STRIPES = [("ox" * 20, 60), ("xo" * 20, 60)]
# How often 1 must be doubled to come to that many stretches or more.
DOUBLINGS = {1: 0, 2: 1, 3: 2, 4: 2, 5: 3, 7: 3, 8: 3, 9: 4, 16: 4, 17: 5, 20: 5}


class Reach(Case):
    def test_ordinary(self):
        takes = [("ooxxxx", 0), ("xxooxx", 0), ("xxxxoo", 2)]
        self.assertTold(reach(6, [2, 4], takes, 0), [2, 4, 4, 6])
        self.assertTold(reach(6, [2, 4], takes, 1), [4, 4, 4, 6])
        self.assertTold(reach(6, [2, 4], takes, 2), [4, 4, 6, 6])
        self.assertTold(reach(6, [2, 4], takes, 3), [6, 6, 6, 6])

    def test_no_takes(self):
        for age in (0, 1, 60, 70):
            self.assertTold(reach(1, [], [], age), [0, 1])
            self.assertTold(reach(6, [2, 4], [], age), [0, 2, 4, 6])

    def test_a_take_older_than_the_age(self):
        takes = [("oooo", 5)]
        self.assertTold(reach(4, [2], takes, 0), [0, 2, 4])
        self.assertTold(reach(4, [2], takes, 4), [0, 2, 4])
        self.assertTold(reach(4, [2], takes, 5), [4, 4, 4])
        self.assertTold(reach(4, [2], takes, 70), [4, 4, 4])

    def test_ages_at_the_edges(self):
        takes = [("oxxx", 60), ("xoox", 59), ("xxxo", 0)]
        self.assertTold(reach(4, [1, 3], takes, 0), [0, 1, 4, 4])
        self.assertTold(reach(4, [1, 3], takes, 58), [0, 1, 4, 4])
        self.assertTold(reach(4, [1, 3], takes, 59), [0, 3, 4, 4])
        self.assertTold(reach(4, [1, 3], takes, 60), [1, 4, 4, 4])
        self.assertTold(reach(4, [1, 3], takes, 61), [4, 4, 4, 4])
        self.assertTold(reach(4, [1, 3], takes, 70), [4, 4, 4, 4])

    def test_a_stretch_must_end_where_the_blade_may_cut(self):
        self.assertTold(reach(4, [3], [("oooo", 0)], 0), [4, 4, 4])
        self.assertTold(reach(4, [3], [("ooxx", 0), ("xxoo", 0)], 9), [0, 4, 4])
        self.assertTold(reach(4, [1, 3], [("ooxx", 0), ("xxoo", 0)], 9), [1, 1, 4, 4])

    def test_it_never_goes_past_a_bar_of_the_shelf(self):
        takes = [("ooxo", 0), ("xoxo", 0)]
        self.assertTold(reach(4, [1, 2, 3], takes, 70), [2, 2, 2, 4, 4])

    def test_it_doubles_with_each_age(self):
        for age in range(60, 71):
            step = 2 ** (age - 60)
            self.assertTold(reach(40, ALL_PLACES, STRIPES, age), [min(end + step, 40) for end in range(41)])
        self.assertTold(reach(40, ALL_PLACES, STRIPES, 59), list(range(41)))

    def test_twenty_takes_and_takes_that_are_alike(self):
        size, cuts, takes = stretches(20, 0, 2)
        self.assertTold(reach(size, cuts, takes, 3)[0], 16)
        self.assertTold(reach(size, cuts, takes, 5), [40] * 21)
        self.assertTold(reach(2, [1], [("ox", 1), ("ox", 1)], 70), [1, 1, 2])

    def test_point_9_by_all_makes_of_small_shelves(self):
        for size, cuts, takes in small_shelves():
            for age, made in enumerate(all_made(cuts, takes, 3)):
                self.assertTold(reach(size, cuts, takes, age), slow_reach(size, cuts, made))

    def test_point_9_by_all_makes_of_larger_shelves(self):
        for size, cuts, takes in drawn_shelves(120, 9):
            for age, made in enumerate(all_made(cuts, takes, 8)):
                told = reach(size, cuts, takes, age)
                self.assertTold(told, slow_reach(size, cuts, made))
                self.assertEqual(told, sorted(told))
                self.assertEqual(told[-1], size)

    def test_point_10(self):
        for size, cuts, takes in drawn_shelves(120, 10):
            places = [0] + cuts + [size]
            before = None
            for age in range(10):
                young = [bars for bars, old in takes if old <= age]
                wanted = [max([end] + [farthest(size, cuts, bars, end) for bars in young]) for end in places]
                if age > 0:
                    wanted = [max(far, before[places.index(before[at])]) for at, far in enumerate(wanted)]
                before = reach(size, cuts, takes, age)
                self.assertTold(before, wanted)

    def test_told_anew(self):
        takes = [("ooxxxx", 0), ("xxooxx", 0), ("xxxxoo", 2)]
        for age in (0, 1, 3, 70):
            self.assertKeepsApart(reach, 6, [2, 4], takes, age)
        self.assertKeepsApart(reach, 6, [2, 4], [], 0)
        self.assertKeepsApart(reach, 6, [2, 4], [("oooooo", 8)], 3)

    def test_a_later_change_is_a_new_question(self):
        cuts, takes = [2], [("ooxx", 0)]
        before = reach(4, cuts, takes, 1)
        takes.append(("xxoo", 0))
        self.assertTold(before, [2, 2, 4])
        self.assertTold(reach(4, cuts, takes, 1), [4, 4, 4])
        cuts.pop()
        self.assertTold(reach(4, cuts, takes, 1), [0, 4])


class LeastAge(Case):
    def test_ordinary(self):
        self.assertTold(least_age(6, [2, 4], [("ooxxxx", 0), ("xxooxx", 0), ("xxxxoo", 2)]), 3)
        self.assertTold(least_age(6, [2, 4], [("ooxxxx", 0), ("xxooxx", 0), ("xxxxoo", 0)]), 2)

    def test_a_clean_take_is_a_clean_make(self):
        for age in (0, 1, 60):
            self.assertTold(least_age(1, [], [("o", age)]), age)
            self.assertTold(least_age(40, ALL_PLACES, [("o" * 40, age)]), age)
            self.assertTold(least_age(40, [], [("o" * 40, age)]), age)

    def test_the_youngest_of_the_clean_takes(self):
        self.assertTold(least_age(2, [], [("oo", 9), ("oo", 4), ("ox", 0), ("oo", 7)]), 4)

    def test_a_clean_take_older_than_a_clean_joining(self):
        takes = [("oooo", 10), ("ooxx", 0), ("xxoo", 0)]
        self.assertTold(least_age(4, [2], takes), 1)
        self.assertTold(least_age(4, [1], takes), 10)
        self.assertTold(least_age(4, [2], [("oooo", 1), ("ooxx", 0), ("xxoo", 0)]), 1)
        self.assertTold(least_age(4, [2], [("oooo", 0), ("ooxx", 0), ("xxoo", 0)]), 0)

    def test_the_older_one_of_two_tells(self):
        self.assertTold(least_age(4, [2], [("ooxx", 0), ("xxoo", 7)]), 8)
        self.assertTold(least_age(4, [2], [("ooxx", 60), ("xxoo", 0)]), 61)

    def test_an_old_take_is_joined_last(self):
        young = [("ooxxxx", 0), ("xxooxx", 0)]
        self.assertTold(least_age(6, [2, 4], young + [("xxxxoo", 1)]), 2)
        self.assertTold(least_age(6, [2, 4], young + [("xxxxoo", 50)]), 51)
        self.assertTold(least_age(6, [2, 4], [("ooxxxx", 0), ("xxooxx", 50), ("xxxxoo", 0)]), 52)

    def test_no_clean_make(self):
        self.assertIsNone(least_age(1, [], []))
        self.assertIsNone(least_age(1, [], [("x", 0)]))
        self.assertIsNone(least_age(40, ALL_PLACES, []))
        self.assertIsNone(least_age(40, ALL_PLACES, STRIPES[:1]))
        self.assertIsNone(least_age(4, [1, 3], [("ooxx", 0), ("xxoo", 0)]))
        self.assertIsNone(least_age(4, [], [("ooxx", 0), ("xxoo", 0)]))
        self.assertTold(bar_of(4, [1, 3], [("ooxx", 0), ("xxoo", 0)]), (1, 3))

    def test_point_12(self):
        for many, doublings in DOUBLINGS.items():
            for age in (0, 7, 60):
                for wide in (1, 2):
                    with self.subTest(many=many, age=age, wide=wide):
                        self.assertTold(least_age(*stretches(many, age, wide)), age + doublings)

    def test_point_12_with_two_takes(self):
        for size in range(2, 41):
            takes = [(bars[:size], age) for bars, age in STRIPES]
            doublings = (size - 1).bit_length()
            self.assertTold(least_age(size, list(range(1, size)), takes), 60 + doublings)

    def test_twenty_takes_that_are_alike(self):
        self.assertTold(least_age(2, [1], [("oo", 5)] * 20), 5)
        self.assertTold(least_age(2, [1], [("ox", 5), ("xo", 5)] * 10), 6)
        self.assertIsNone(least_age(2, [1], [("ox", 5)] * 20))

    def test_the_first_age_at_which_0_reaches_the_size(self):
        for size, cuts, takes in list(small_shelves()) + list(drawn_shelves(200, 11)):
            clean = [age for age in range(12) if reach(size, cuts, takes, age)[0] == size]
            self.assertTold(least_age(size, cuts, takes), clean[0] if clean else None)

    def test_point_11_by_all_makes(self):
        for size, cuts, takes in list(small_shelves()) + list(drawn_shelves(120, 12)):
            made = all_made(cuts, takes, 8)
            clean = [age for age in range(9) if "o" * size in made[age]]
            self.assertTold(least_age(size, cuts, takes), clean[0] if clean else None)

    def test_a_clean_make_just_where_there_is_no_bar(self):
        for size, cuts, takes in list(small_shelves()) + list(drawn_shelves(200, 13)):
            self.assertEqual(least_age(size, cuts, takes) is None, bar_of(size, cuts, takes) is not None)

    def test_lists_stay_as_they_were(self):
        self.assertKeepsApart(least_age, 6, [2, 4], [("ooxxxx", 0), ("xxooxx", 0), ("xxxxoo", 2)])
        self.assertKeepsApart(least_age, 6, [2, 4], [("ooxxxx", 0)])

    def test_a_later_change_is_a_new_question(self):
        cuts, takes = [2], [("ooxx", 0)]
        self.assertIsNone(least_age(4, cuts, takes))
        takes.append(("xxoo", 0))
        self.assertTold(least_age(4, cuts, takes), 1)
        cuts.pop()
        self.assertIsNone(least_age(4, cuts, takes))


if __name__ == "__main__":
    unittest.main()
