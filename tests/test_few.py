import unittest

from hissroom.errors import BadMake, BadNumber
from hissroom.few import best_of, count_best, fewest, number_of
from hissroom.makes import joinings, made
from hissroom.reach import least_age
from tests.helper import (
    Case,
    all_makes,
    balanced,
    chain_left,
    chain_right,
    compare,
    drawn_shelves,
    joined_shelves,
    slow_best,
    slow_count,
    slow_fewest,
    small_shelves,
    stretches,
    wide_shelves,
)

ALL_PLACES = list(range(1, 40))
STRIPES = [("ox" * 20, 60), ("xo" * 20, 60)]
NO_CLEAN = (4, [1, 3], [("ooxx", 0), ("xxoo", 0)])
THREE = (6, [2, 4], [("ooxxxx", 0), ("xxooxx", 0), ("xxxxoo", 0)])
# How many trees with so many leaves have the least height.
TREES = {1: 1, 2: 1, 3: 2, 4: 1, 5: 6, 7: 4, 8: 1, 15: 8, 16: 1, 31: 16, 32: 1}


def known_shelves():
    """Shelves that are small enough for all their makes, each with these."""
    for size, cuts, takes in list(small_shelves()) + list(joined_shelves(150, 31)):
        yield size, cuts, takes, all_makes(cuts, takes, len(cuts))


class Fewest(Case):
    def test_ordinary(self):
        takes = [("ooxxxx", 0), ("xxooxx", 0), ("xxxxoo", 2)]
        wanted = [None, None, None, 2, 2]
        for age, many in enumerate(wanted):
            self.assertTold(fewest(6, [2, 4], takes, age), many)

    def test_older_makes_with_fewer_joinings(self):
        takes = [("ooxxxx", 0), ("xxooxx", 0), ("xxxxoo", 0), ("xxoooo", 5), ("oooooo", 9)]
        wanted = [None, None, 2, 2, 2, 2, 1, 1, 1, 0, 0]
        for age, many in enumerate(wanted):
            self.assertTold(fewest(6, [2, 4], takes, age), many)
        self.assertTold(fewest(6, [2, 4], takes, 70), 0)

    def test_a_clean_take_has_no_joining(self):
        for age in (0, 1, 60):
            self.assertTold(fewest(1, [], [("o", age)], age), 0)
            self.assertTold(fewest(40, ALL_PLACES, [("x" * 40, 0), ("o" * 40, age)], age), 0)
            self.assertTold(fewest(40, ALL_PLACES, [("x" * 40, 0), ("o" * 40, age)], 70), 0)
            self.assertIsNone(fewest(40, ALL_PLACES, [("x" * 40, 0), ("o" * 40, age + 1)], age))

    def test_ages_at_the_edges(self):
        takes = [("oxxx", 60), ("xoox", 59), ("xxxo", 0)]
        for age, many in ((0, None), (60, None), (61, 2), (62, 2), (70, 2), (80, 2), (-1, None)):
            self.assertTold(fewest(4, [1, 3], takes, age), many)

    def test_no_clean_make(self):
        for age in (0, 1, 2, 60, 70):
            self.assertIsNone(fewest(*NO_CLEAN, age))
            self.assertIsNone(fewest(1, [], [], age))
            self.assertIsNone(fewest(40, ALL_PLACES, [], age))
            self.assertIsNone(fewest(4, [], [("ooxx", 0), ("xxoo", 0)], age))

    def test_point_12(self):
        for many in range(1, 21):
            for age in (0, 7, 60):
                for wide in (1, 2):
                    shelf = stretches(many, age, wide)
                    least = least_age(*shelf)
                    self.assertTold(fewest(*shelf, least), many - 1)
                    self.assertTold(fewest(*shelf, 70), many - 1)
                    if least > 0:
                        self.assertIsNone(fewest(*shelf, least - 1))

    def test_point_12_with_two_takes(self):
        for size in (2, 3, 17, 32, 33, 40):
            takes = [(bars[:size], age) for bars, age in STRIPES]
            cuts = list(range(1, size))
            self.assertTold(fewest(size, cuts, takes, least_age(size, cuts, takes)), size - 1)

    def test_the_least_age_may_need_more_joinings(self):
        # Four takes at the age 2, or two of which one is as old as that itself.
        takes = [("oxxx", 0), ("xoxx", 0), ("xxox", 0), ("xxxo", 0), ("xooo", 2)]
        self.assertTold([fewest(4, [1, 2, 3], takes, age) for age in range(5)], [None, None, 3, 1, 1])

    def test_by_all_makes(self):
        for size, cuts, takes, makes in known_shelves():
            for age in range(8):
                self.assertTold(fewest(size, cuts, takes, age), slow_fewest(size, makes, age))

    def test_by_another_count(self):
        for size, cuts, takes in drawn_shelves(80, 32):
            for age in range(9):
                self.assertTold(fewest(size, cuts, takes, age), slow_count(size, cuts, takes, age)[0])

    def test_twenty_takes_that_are_alike(self):
        self.assertTold(fewest(2, [1], [("oo", 5)] * 20, 5), 0)
        self.assertTold(fewest(2, [1], [("ox", 5), ("xo", 5)] * 10, 6), 1)
        self.assertIsNone(fewest(2, [1], [("ox", 5), ("xo", 5)] * 10, 5))

    def test_lists_stay_as_they_were(self):
        for age in (0, 2, 70):
            self.assertKeepsApart(fewest, *THREE, age)

    def test_a_later_change_is_a_new_question(self):
        cuts, takes = [2], [("ooxx", 0)]
        self.assertIsNone(fewest(4, cuts, takes, 1))
        takes.append(("xxoo", 0))
        self.assertTold(fewest(4, cuts, takes, 1), 1)
        cuts.pop()
        self.assertIsNone(fewest(4, cuts, takes, 1))


class CountBest(Case):
    def test_ordinary(self):
        self.assertTold(count_best(*THREE), 2)
        self.assertTold(count_best(6, [2, 4], [("ooxxxx", 0), ("xxooxx", 0), ("xxxxoo", 2)]), 1)
        self.assertTold(count_best(6, [2, 3, 4], [("ooooxx", 0), ("xxoooo", 0)]), 3)

    def test_no_clean_make(self):
        self.assertTold(count_best(*NO_CLEAN), 0)
        self.assertTold(count_best(1, [], []), 0)
        self.assertTold(count_best(40, ALL_PLACES, []), 0)
        self.assertTold(count_best(40, ALL_PLACES, [STRIPES[0]] * 20), 0)

    def test_clean_takes(self):
        self.assertTold(count_best(1, [], [("o", 0)]), 1)
        self.assertTold(count_best(40, ALL_PLACES, [("o" * 40, 3)] * 20), 20)
        self.assertTold(count_best(40, ALL_PLACES, [("o" * 40, 3)] * 5 + [("o" * 40, 2)] * 4), 4)

    def test_a_clean_take_older_than_a_clean_joining(self):
        takes = [("oooo", 10), ("ooxx", 0), ("xxoo", 0), ("xxoo", 0)]
        self.assertTold(count_best(4, [2], takes), 2)
        self.assertTold(count_best(4, [1], takes), 1)

    def test_a_clean_take_as_old_as_a_clean_joining(self):
        self.assertTold(count_best(4, [2], [("oooo", 1), ("ooxx", 0), ("xxoo", 0)]), 1)

    def test_all_shapes_of_the_least_age(self):
        for many, trees in TREES.items():
            size = max(many, 1)
            takes = [("ox" * size, 4), ("xo" * size, 4)]
            takes = [(bars[:size], age) for bars, age in takes]
            self.assertTold(count_best(size, list(range(1, size)), takes), trees)

    def test_counts_of_many_figures(self):
        alike = [("ox" * 16, 9)] * 10 + [("xo" * 16, 9)] * 10
        self.assertTold(count_best(32, list(range(1, 32)), alike), 10 ** 32)
        alike = [("ox" * 16, 9)] * 3 + [("xo" * 16, 9)] * 7
        self.assertTold(count_best(32, list(range(1, 32)), alike), 21 ** 16)
        takes = [("ox" * 20, 9)] * 10 + [("xo" * 20, 9)] * 10
        fewest_of, count = slow_count(40, ALL_PLACES, [("ox" * 20, 0), ("xo" * 20, 0)], 6)
        self.assertEqual(fewest_of, 39)
        self.assertTold(count_best(40, ALL_PLACES, takes), count * 10 ** 40)

    def test_by_another_count(self):
        for size, cuts, takes in drawn_shelves(150, 33):
            least = least_age(size, cuts, takes)
            wanted = 0 if least is None else slow_count(size, cuts, takes, least)[1]
            self.assertTold(count_best(size, cuts, takes), wanted)

    def test_shelves_of_forty_bars(self):
        for size, cuts, takes in wide_shelves():
            least = least_age(size, cuts, takes)
            if least is not None:
                many, count = slow_count(size, cuts, takes, least)
                self.assertTold(count_best(size, cuts, takes), count)
                self.assertTold(fewest(size, cuts, takes, least), many)

    def test_lists_stay_as_they_were(self):
        self.assertKeepsApart(count_best, *THREE)
        self.assertKeepsApart(count_best, *NO_CLEAN)


class BestOf(Case):
    def test_ordinary(self):
        self.assertTold(best_of(*THREE, 0), (2, 0, (4, 1, 2)))
        self.assertTold(best_of(*THREE, 1), (4, (2, 0, 1), 2))
        for number, place in enumerate((2, 3, 4)):
            self.assertTold(best_of(6, [2, 3, 4], [("ooooxx", 0), ("xxoooo", 0)], number), (place, 0, 1))

    def test_takes_alone(self):
        takes = [("oo", 3), ("oo", 2), ("ox", 0), ("oo", 2), ("oo", 5)]
        self.assertTold(best_of(2, [1], takes, 0), 1)
        self.assertTold(best_of(2, [1], takes, 1), 3)
        self.assertRefuses(BadNumber, best_of, 2, [1], takes, 2)

    def test_the_order(self):
        takes = [("ox", 1), ("xo", 0), ("ox", 0), ("xo", 0), ("ox", 0)]
        wanted = [(1, 2, 1), (1, 2, 3), (1, 4, 1), (1, 4, 3)]
        self.assertTold([best_of(2, [1], takes, number) for number in range(4)], wanted)

    def test_numbers_of_none(self):
        for shelf in (THREE, (1, [], [("o", 60)]), (40, ALL_PLACES, STRIPES * 10)):
            count = count_best(*shelf)
            for number in (-1, -2, count, count + 1, 10 ** 30 * count, 10 ** 5000, -(10 ** 30), -count):
                self.assertRefuses(BadNumber, best_of, *shelf, number)

    def test_no_clean_make(self):
        for number in (-1, 0, 1, 10 ** 30):
            self.assertRefuses(BadNumber, best_of, *NO_CLEAN, number)
            self.assertRefuses(BadNumber, best_of, 1, [], [], number)
            self.assertRefuses(BadNumber, best_of, 40, ALL_PLACES, [STRIPES[0]] * 20, number)

    def test_all_best_makes_of_small_shelves_in_their_order(self):
        for size, cuts, takes, makes in known_shelves():
            best = slow_best(size, makes)
            self.assertTold(count_best(size, cuts, takes), len(best))
            for number, make in list(enumerate(best))[:60] + list(enumerate(best))[-20:]:
                self.assertTold(best_of(size, cuts, takes, number), make)
                self.assertTold(number_of(size, cuts, takes, make), number)

    def test_larger_shelves(self):
        for size, cuts, takes in wide_shelves() + [(40, ALL_PLACES, STRIPES * 10), (40, ALL_PLACES, STRIPES)]:
            count = count_best(size, cuts, takes)
            least = least_age(size, cuts, takes)
            many = fewest(size, cuts, takes, least or 0)
            before = None
            for part in range(5 if count else 0):
                for number in sorted(set([count * part // 5, min(count * part // 5 + 1, count - 1)])):
                    make = best_of(size, cuts, takes, number)
                    self.assertTold(made(size, cuts, takes, make), ("o" * size, least))
                    self.assertTold(joinings(make), many)
                    self.assertTold(number_of(size, cuts, takes, make), number)
                    if before is not None and before[0] < number:
                        self.assertLess(compare(before[1], make), 0)
                    before = number, make

    def test_the_last_one(self):
        shelf = (32, list(range(1, 32)), [("ox" * 16, 0)] * 10 + [("xo" * 16, 0)] * 10)
        make = best_of(*shelf, 10 ** 32 - 1)
        self.assertTold(number_of(*shelf, make), 10 ** 32 - 1)
        while isinstance(make, tuple):
            make = make[2]
        self.assertTold(make, 19)

    def test_lists_stay_as_they_were(self):
        self.assertKeepsApart(best_of, *THREE, 1)


class NumberOf(Case):
    def refuses(self, shelf, *makes):
        for make in makes:
            self.assertRefuses(BadMake, number_of, *shelf, make)

    def test_ordinary(self):
        self.assertTold(number_of(*THREE, (2, 0, (4, 1, 2))), 0)
        self.assertTold(number_of(*THREE, (4, (2, 0, 1), 2)), 1)

    def test_makes_that_point_7_refuses(self):
        self.refuses(THREE, 3, -1, 10 ** 20, (2, 0, (4, 1, 3)), (2, -1, (4, 1, 2)), (2, 0, (4, 1, 10 ** 20)))
        self.refuses(THREE, (3, 0, (4, 1, 2)), (0, 0, (4, 1, 2)), (6, 0, (4, 1, 2)), (7, 0, (4, 1, 2)))
        self.refuses(THREE, (2, 0, (-4, 1, 2)), (2, 0, (10 ** 20, 1, 2)), (-2, 0, (4, 1, 2)))
        # Numbers from the end tell no take.
        self.refuses(THREE, (2, -3, (4, -2, -1)))
        self.refuses((1, [], [("o", 0)]), -1, 1, 10 ** 20, (0, 0, 0), (1, 0, 0))

    def test_makes_that_are_not_clean(self):
        self.refuses(THREE, 0, 1, 2, (2, 0, 1), (4, 0, 2), (2, 0, (4, 2, 1)), (2, 0, (2, 1, 2)), (2, 0, (4, 0, 2)))

    def test_a_best_make_with_its_parts_exchanged(self):
        self.refuses(THREE, (2, (4, 1, 2), 0), (4, 2, (2, 0, 1)), (4, (2, 1, 0), 2), (2, 0, (4, 2, 1)))
        self.refuses((2, [1], [("ox", 0), ("xo", 0)]), (1, 1, 0))

    def test_clean_makes_that_are_not_of_the_least_age(self):
        takes = [("oooo", 10), ("ooxx", 0), ("xxoo", 0), ("xxoo", 1)]
        self.refuses((4, [2], takes), 0, (2, 1, 3), (2, 0, 0), (2, 1, 0))
        self.assertTold(number_of(4, [2], takes, (2, 1, 2)), 0)
        takes = [("oxxx", 0), ("xoxx", 0), ("xxox", 0), ("xxxo", 0)]
        self.assertTold(number_of(4, [1, 2, 3], takes, (2, (1, 0, 1), (3, 2, 3))), 0)
        self.refuses((4, [1, 2, 3], takes), (1, 0, (2, 1, (3, 2, 3))), (3, (2, (1, 0, 1), 2), 3))
        self.refuses((4, [1, 2, 3], takes), (1, 0, (3, (2, 1, 2), 3)), (3, (1, 0, (2, 1, 2)), 3))

    def test_clean_makes_of_the_least_age_with_a_joining_too_many(self):
        takes = [("ooxxxx", 0), ("xxooxx", 0), ("xxxxoo", 0), ("xxxxoo", 3)]
        shelf = (6, [2, 3, 4], takes)
        self.assertTold(made(*shelf, (4, (2, 0, 1), (2, 2, 2))), ("oooooo", 2))
        self.refuses(shelf, (4, (2, 0, 1), (2, 2, 2)), (4, (2, 0, 1), (4, 1, 2)), (2, (2, 0, 1), (4, 1, 2)))
        self.refuses(shelf, (4, (2, 0, (3, 1, 1)), 2))
        self.refuses((2, [1], [("oo", 1), ("oo", 0)]), (1, 1, 1), 0)
        self.assertTold(number_of(2, [1], [("oo", 1), ("oo", 0)], 1), 0)
        # A clean take and a clean joining are of one age: the take has fewer joinings.
        self.refuses((4, [2], [("oooo", 1), ("ooxx", 0), ("xxoo", 0)]), (2, 1, 2), 1, 2)
        self.assertTold(number_of(4, [2], [("oooo", 1), ("ooxx", 0), ("xxoo", 0)], 0), 0)

    def test_a_take_that_is_too_old_for_where_it_stands(self):
        takes = [("ooxxxx", 0), ("xxooxx", 0), ("xxxxoo", 2)]
        self.assertTold(number_of(6, [2, 4], takes, (4, (2, 0, 1), 2)), 0)
        self.refuses((6, [2, 4], takes), (2, 0, (4, 1, 2)))

    def test_no_clean_make(self):
        for make in (0, 1, -1, 2, 10 ** 20, (1, 0, 1), (3, 0, 1), (2, 0, 1), chain_left(40, [1, 3]), balanced(40, [1])):
            self.refuses(NO_CLEAN, make)
            self.refuses((1, [], []), make)
            self.refuses((40, ALL_PLACES, [STRIPES[0]] * 20), make)

    def test_makes_of_forty_takes(self):
        size, cuts = 40, ALL_PLACES
        left, right = 0, 1
        for place in cuts:
            left = (place, left, place % 2)
            right = (40 - place, (39 - place) % 2, right)
        for make in (left, right, chain_left(40, cuts), chain_right(40, cuts), balanced(40, cuts), chain_right(60, cuts)):
            self.refuses((size, cuts, STRIPES), make)
        # Where each further take is a copy younger, one chain alone is the best make.
        takes = [("x" * bar + "o" + "x" * (39 - bar), 39 - bar) for bar in range(40)]
        make = 39
        for bar in range(38, -1, -1):
            make = (bar + 1, bar, make)
        self.assertTold(count_best(size, cuts, takes), 1)
        self.assertTold(least_age(size, cuts, takes), 40)
        self.assertTold(number_of(size, cuts, takes, make), 0)
        self.assertTold(best_of(size, cuts, takes, 0), make)
        takes = [("x" * bar + "o" + "x" * (39 - bar), bar) for bar in range(40)]
        make = 0
        for bar in range(1, 40):
            make = (bar, make, bar)
        self.assertTold(best_of(size, cuts, takes, count_best(size, cuts, takes) - 1), make)
        self.assertTold(number_of(size, cuts, takes, make), count_best(size, cuts, takes) - 1)

    def test_every_make_of_small_shelves(self):
        for size, cuts, takes, makes in list(known_shelves())[::7]:
            best = slow_best(size, makes)
            for some in makes:
                for make, bars, age in some[:300]:
                    if make in best:
                        self.assertTold(number_of(size, cuts, takes, make), best.index(make))
                    else:
                        self.assertRaises(BadMake, number_of, size, cuts, takes, make)

    def test_lists_stay_as_they_were(self):
        self.assertKeepsApart(number_of, *THREE, (4, (2, 0, 1), 2))


if __name__ == "__main__":
    unittest.main()
