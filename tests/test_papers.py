import unittest

from hissroom.ends import bar_of
from hissroom.few import best_of, count_best, fewest
from hissroom.looker import good_answer, good_few, good_young
from hissroom.makes import joinings, made
from hissroom.papers import answer, few_paper, young_paper
from hissroom.reach import least_age
from tests.helper import (
    Case,
    drawn_shelves,
    few_faults,
    joined_shelves,
    lists_in,
    small_shelves,
    stretches,
    wide_shelves,
    young_faults,
)

ALL_PLACES = list(range(1, 40))
STRIPES = [("ox" * 20, 60), ("xo" * 20, 60)]
NO_CLEAN = (4, [1, 3], [("ooxx", 0), ("xxoo", 0)])
THREE = (6, [2, 4], [("ooxxxx", 0), ("xxooxx", 0), ("xxxxoo", 2)])


def some_shelves():
    return list(small_shelves())[::5] + list(drawn_shelves(40, 41)) + list(joined_shelves(40, 42))


class YoungPaper(Case):
    def shows(self, shelf, age):
        paper = young_paper(*shelf, age)
        self.assertEqual(young_faults(*shelf, age, paper), set(), (shelf, age))
        self.assertIs(good_young(*shelf, age, paper), True)
        for row in [paper] + paper:
            self.assertIs(type(row), list)
        for row in paper:
            self.assertTrue(all(type(far) is int for far in row))

    def test_the_age_0(self):
        for shelf in (THREE, NO_CLEAN, (1, [], []), (40, ALL_PLACES, STRIPES)):
            self.assertTold(young_paper(*shelf, 0), [])

    def test_each_age_up_to_the_least(self):
        for shelf in some_shelves():
            least = least_age(*shelf)
            for age in range(4 if least is None else least + 1):
                self.shows(shelf, age)

    def test_no_clean_make(self):
        for shelf in (NO_CLEAN, (1, [], []), (1, [], [("x", 0)]), (40, ALL_PLACES, [STRIPES[0]] * 20)):
            for age in (0, 1, 2, 29, 30, 35):
                self.shows(shelf, age)

    def test_old_takes(self):
        for age in (1, 59, 60, 61, 65, 66):
            self.shows((40, ALL_PLACES, STRIPES), age)

    def test_point_12(self):
        for many in (1, 2, 5, 16, 17, 20):
            for age in (0, 60):
                shelf = stretches(many, age, 2)
                self.shows(shelf, least_age(*shelf))

    def test_told_anew(self):
        for age in (0, 1, 2, 3):
            self.assertKeepsApart(young_paper, *THREE, age)
        self.assertKeepsApart(young_paper, *NO_CLEAN, 5)
        self.assertKeepsApart(young_paper, 6, [2, 4], [], 3)


class FewPaper(Case):
    def shows(self, shelf, age, many):
        paper = few_paper(*shelf, age, many)
        self.assertEqual(few_faults(*shelf, age, many, paper), set(), (shelf, age, many))
        self.assertIs(good_few(*shelf, age, many, paper), True)
        for one in lists_in(paper):
            self.assertTrue(all(type(part) in (int, list) for part in one))

    def test_no_joinings(self):
        for age in (0, 1, 60, 70):
            for shelf in (THREE, NO_CLEAN, (1, [], []), (1, [], [("o", 0)])):
                self.assertTold(few_paper(*shelf, age, 0), [[]] * (age + 1))

    def test_each_number_up_to_the_fewest(self):
        for shelf in some_shelves():
            for age in range(5):
                few = fewest(*shelf, age)
                for many in range(6 if few is None else few + 1):
                    self.shows(shelf, age, many)

    def test_no_clean_make(self):
        for shelf in (NO_CLEAN, (1, [], []), (1, [], [("x", 0)]), (4, [], [("ooxo", 0)] * 20)):
            for age in (0, 1, 30, 60, 70):
                for many in (1, 2, 3, 19, 20, 25):
                    self.shows(shelf, age, many)

    def test_more_joinings_than_cuts(self):
        # No number of joinings is enough where no make is clean.
        self.assertTold(few_paper(2, [], [("ox", 0)], 1, 3), [[[0, 2]] * 3] * 2)
        self.assertTold(few_paper(2, [1], [("ox", 0)], 1, 4), [[[1, 1, 2]] * 4] * 2)

    def test_ages_below_the_least(self):
        for age in (0, 1, 2):
            for many in (0, 1, 2, 3, 20):
                self.shows(THREE, age, many)
        for age in (0, 59, 60, 65):
            self.shows((40, ALL_PLACES, STRIPES), age, 20)

    def test_ages_above_the_least(self):
        takes = THREE[2] + [("xxoooo", 5), ("oooooo", 9)]
        for age in (3, 4, 5, 6, 8, 9, 60, 70):
            self.shows((6, [2, 4], takes), age, fewest(6, [2, 4], takes, age))
        self.shows((40, ALL_PLACES, STRIPES), 70, 39)

    def test_told_anew(self):
        for age in (0, 1, 3):
            for many in (0, 1, 2):
                self.assertKeepsApart(few_paper, *THREE, age, many)
        self.assertKeepsApart(few_paper, *NO_CLEAN, 6, 5)
        self.assertKeepsApart(few_paper, 6, [2, 4], [], 3, 3)
        self.assertKeepsApart(few_paper, 6, [2, 4], [("ooxxxx", 0)], 9, 3)


class Answer(Case):
    def check(self, size, cuts, takes):
        told = answer(size, cuts, takes)
        self.assertIs(type(told), tuple)
        bar = bar_of(size, cuts, takes)
        if bar is not None:
            self.assertTold(told, ("bar",) + bar)
        else:
            word, make, young, few = told
            least = least_age(size, cuts, takes)
            many = fewest(size, cuts, takes, least)
            self.assertTold(word, "make")
            self.assertTold(made(size, cuts, takes, make), ("o" * size, least))
            self.assertTold(joinings(make), many)
            self.assertEqual(young_faults(size, cuts, takes, least, young), set())
            self.assertEqual(few_faults(size, cuts, takes, least, many, few), set())
        self.assertIs(good_answer(size, cuts, takes, told), True)

    def test_ordinary(self):
        self.assertEqual(answer(*THREE)[:2], ("make", (4, (2, 0, 1), 2)))
        self.assertTold(answer(*NO_CLEAN), ("bar", 1, 3))

    def test_takes_alone(self):
        self.assertTold(answer(1, [], [("o", 0)]), ("make", 0, [], [[]]))
        self.assertTold(answer(2, [1], [("oo", 2), ("oo", 1)]), ("make", 1, [[0, 1, 2]], [[], []]))

    def test_the_bar(self):
        self.assertTold(answer(1, [], []), ("bar", 0, 1))
        self.assertTold(answer(4, [1], [("oxxo", 0)]), ("bar", 1, 4))
        self.assertTold(answer(6, [2, 4], [("ooxxxx", 0)]), ("bar", 2, 4))
        self.assertTold(answer(40, ALL_PLACES, [STRIPES[0]] * 20), ("bar", 1, 2))

    def test_edges(self):
        self.check(*THREE)
        self.check(40, ALL_PLACES, STRIPES * 10)
        self.check(40, [], [("o" * 40, 60)] * 20)
        self.check(4, [2], [("oooo", 10), ("ooxx", 0), ("xxoo", 0)])
        self.check(4, [2], [("oooo", 1), ("ooxx", 0), ("xxoo", 0)])
        self.check(4, [1], [("oooo", 10), ("ooxx", 0), ("xxoo", 0)])
        self.check(2, [1], [("ox", 5), ("xo", 5)] * 10)

    def test_shelves(self):
        for shelf in some_shelves():
            self.check(*shelf)

    def test_shelves_of_forty_bars(self):
        for shelf in wide_shelves():
            if least_age(*shelf) is None or least_age(*shelf) < 20:
                self.check(*shelf)
            else:
                self.assertIs(good_answer(*shelf, answer(*shelf)), True)

    def test_one_of_the_best_makes(self):
        for shelf in joined_shelves(40, 43):
            told = answer(*shelf)
            self.assertEqual(told[0], "make")
            self.assertIn(told[1], [best_of(*shelf, number) for number in range(count_best(*shelf))])

    def test_told_anew(self):
        for shelf in (THREE, NO_CLEAN, (6, [2, 4], THREE[2] + [("oooooo", 2)]), (1, [], [("o", 3)])):
            self.assertKeepsApart(answer, *shelf)


if __name__ == "__main__":
    unittest.main()
