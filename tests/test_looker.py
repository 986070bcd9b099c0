import copy
import itertools
import unittest

from hissroom.few import fewest
from hissroom.looker import good_answer, good_few, good_young
from hissroom.makes import joinings, made
from hissroom.papers import answer, few_paper, young_paper
from hissroom.reach import least_age
from tests.helper import (
    Case,
    all_rows,
    balanced,
    chain_left,
    chain_right,
    drawn_shelves,
    few_faults,
    joined_shelves,
    lists_in,
    wide_shelves,
    young_faults,
)

ALL_PLACES = list(range(1, 40))
STRIPES = [("ox" * 20, 60), ("xo" * 20, 60)]
NO_CLEAN = (4, [1, 3], [("ooxx", 0), ("xxoo", 0)])
TAKES = [("ooxxxx", 0), ("xxooxx", 0), ("xxxxoo", 0)]
THREE = (6, [2, 4], TAKES)
# All the takes of two bars, for shelves of which all papers are tried.
PAIRS = list(itertools.combinations_with_replacement([(bars, age) for bars in ("oo", "ox", "xo") for age in (0, 1)], 2))
NUMBERS = (-1, -(10 ** 20), 1, 3, 7, 8, 10 ** 20, 10 ** 5000)


def changed(paper, numbers):
    """The paper with each one of its numbers changed in turn, to each of these."""
    if isinstance(paper, int):
        return [number for number in numbers if number != paper]
    told = []
    for at, part in enumerate(paper):
        told += [paper[:at] + [other] + paper[at + 1:] for other in changed(part, numbers)]
    return told


def moved(paper, ends):
    """The paper with each one of its numbers raised and lowered by an end in turn."""
    if isinstance(paper, int):
        at = ends.index(paper)
        return [ends[other] for other in (at - 1, at + 1) if 0 <= other < len(ends)]
    told = []
    for at, part in enumerate(paper):
        told += [paper[:at] + [other] + paper[at + 1:] for other in moved(part, ends)]
    return told


def shortened(paper):
    """The paper with one part of any of its lists left out, doubled, or emptied in turn."""
    if isinstance(paper, int):
        return []
    told = []
    for at, part in enumerate(paper):
        told += [paper[:at] + paper[at + 1:], paper[:at] + [part, part] + paper[at + 1:]]
        if part and isinstance(part, list):
            told.append(paper[:at] + [[]] + paper[at + 1:])
        told += [paper[:at] + [other] + paper[at + 1:] for other in shortened(part)]
    return told


class Judge(Case):
    def young(self, shelf, age, paper, good):
        self.assertIs(good_young(*shelf, age, paper), good, (shelf, age, paper))

    def few(self, shelf, age, many, paper, good):
        self.assertIs(good_few(*shelf, age, many, paper), good, (shelf, age, many, paper))

    def answers(self, shelf, told, good):
        self.assertIs(good_answer(*shelf, told), good, (shelf, told))


class GoodYoung(Judge):
    def test_the_age_0(self):
        for shelf in (THREE, NO_CLEAN, (1, [], []), (1, [], [("o", 0)])):
            self.young(shelf, 0, [], True)
            self.young(shelf, 0, [[]], False)
            self.young(shelf, 0, [[0] + shelf[1] + [shelf[0]]], False)

    def test_ordinary(self):
        self.young(THREE, 1, [[2, 4, 6, 6]], True)
        self.young(THREE, 2, [[2, 4, 6, 6], [4, 6, 6, 6]], True)
        self.young(THREE, 2, [[2, 4, 6, 6], [4, 4, 6, 6]], False)
        self.young(THREE, 2, [[2, 4, 4, 6], [4, 6, 6, 6]], False)
        self.young(THREE, 2, [[2, 4, 6, 6], [6, 6, 6, 6]], False)

    def test_a_paper_may_have_more_than_the_reach(self):
        self.young(THREE, 1, [[4, 6, 6, 6]], True)
        self.young(THREE, 1, [[4, 4, 6, 6]], True)
        self.young(THREE, 2, [[4, 6, 6, 6], [6, 6, 6, 6]], False)
        self.young(NO_CLEAN, 1, [[3, 3, 4, 4]], True)
        self.young(NO_CLEAN, 2, [[3, 3, 4, 4], [4, 4, 4, 4]], False)

    def test_takes_count_from_their_age_on(self):
        shelf = (4, [2], [("ooxx", 0), ("oooo", 2), ("xxoo", 60)])
        self.young(shelf, 2, [[2, 2, 4], [2, 2, 4]], True)
        self.young(shelf, 2, [[0, 2, 4], [2, 2, 4]], False)
        self.young(shelf, 3, [[2, 2, 4], [2, 2, 4], [2, 2, 4]], False)
        self.young(shelf, 3, [[2, 2, 4], [2, 2, 4], [4, 4, 4]], False)

    def test_an_age_too_many_is_never_good(self):
        for takes in PAIRS:
            shelf = (2, [1], list(takes))
            least = least_age(*shelf)
            for age in range(4):
                some = False
                for rows in itertools.product(all_rows([0, 1, 2]), repeat=age):
                    good = young_faults(*shelf, age, list(rows)) == set()
                    self.young(shelf, age, list(rows), good)
                    some = some or good
                self.assertEqual(some, least is None or age <= least)

    def test_the_age_must_be_that_of_the_paper(self):
        for age in (0, 1, 2, 3, 99, 100):
            for other in (0, 1, 2):
                self.young(THREE, age, young_paper(*THREE, other), age == other)
        for age in (0, 1, 60, 66, 67, 99, 100):
            self.young((40, ALL_PLACES, STRIPES), age, young_paper(40, ALL_PLACES, STRIPES, 66), age == 66)
        for age in (0, 1, 30, 99, 100):
            self.young(NO_CLEAN, age, young_paper(*NO_CLEAN, age), True)
            self.young(NO_CLEAN, age, young_paper(*NO_CLEAN, age + 1), False)

    def test_each_part_broken_alone(self):
        alone = set()
        for size, cuts, takes in [THREE, NO_CLEAN] + list(drawn_shelves(40, 51)) + list(joined_shelves(40, 52)):
            least = least_age(size, cuts, takes)
            for age in range(1, 4 if least is None else least + 1):
                for paper in moved(young_paper(size, cuts, takes, age), [0] + cuts + [size]):
                    faults = young_faults(size, cuts, takes, age, paper)
                    self.young((size, cuts, takes), age, paper, not faults)
                    if len(faults) == 1:
                        alone |= faults
        self.assertEqual(alone, {"form", "a", "b", "c"})

    def test_numbers_that_are_no_ends(self):
        for paper in changed(young_paper(*THREE, 2), NUMBERS):
            self.young(THREE, 2, paper, False)

    def test_rows_that_fall_and_numbers_below_their_own_end(self):
        shelf = (4, [1, 2], [])
        self.young(shelf, 1, [[2, 2, 2, 4]], True)
        self.young(shelf, 1, [[2, 1, 2, 4]], False)
        self.young(shelf, 1, [[0, 0, 2, 4]], False)
        self.young(shelf, 1, [[1, 1, 1, 4]], False)
        self.young(shelf, 1, [[0, 1, 2, 2]], False)
        self.young(shelf, 1, [[2, 4, 2, 4]], False)

    def test_papers_of_another_length(self):
        paper = young_paper(*THREE, 2)
        for other in shortened(paper) + [[], [[]], [[], []], paper + [[]], [[]] + paper, [paper[0]] * 100000]:
            self.young(THREE, 2, other, False)
        for long in ([0] * 100000, [6] * 100000, list(range(100000))):
            self.young(THREE, 1, [long], False)
            self.young(THREE, 2, [paper[0], long], False)

    def test_lists_stay_as_they_were(self):
        self.assertKeepsApart(good_young, *THREE, 2, young_paper(*THREE, 2))
        self.assertKeepsApart(good_young, *THREE, 2, [[2, 4, 6, 6], [4, 4, 6, 6]])


class GoodFew(Judge):
    def test_no_joinings(self):
        for age in (0, 1, 2, 99, 100):
            for shelf in (THREE, NO_CLEAN, (1, [], []), (1, [], [("o", 0)])):
                self.few(shelf, age, 0, [[]] * (age + 1), True)
                self.few(shelf, age, 0, [[]] * age, False)
                self.few(shelf, age, 0, [[]] * (age + 2), False)
                self.few(shelf, age, 0, [[]] * age + [[[]]], False)

    def test_ordinary(self):
        first = [2, 4, 6, 6]
        second = [4, 6, 6, 6]
        self.few(THREE, 2, 2, [[first, first], [first, second], [first, second]], True)
        self.few(THREE, 2, 2, [[first, first], [first, first], [first, second]], False)
        self.few(THREE, 2, 2, [[first, first], [first, second], [second, second]], True)
        self.few(THREE, 2, 2, [[first, first], [first, second], [second, first]], False)
        self.few(THREE, 1, 2, [[first, first], [first, second]], True)
        self.few(THREE, 0, 2, [[first, first]], True)
        self.few(THREE, 0, 2, [[first, second]], True)
        self.few(THREE, 0, 2, [[first, [6, 6, 6, 6]]], False)

    def test_a_joining_too_many_is_never_good(self):
        for takes in PAIRS:
            shelf = (2, [1], list(takes))
            for age, many in ((0, 0), (0, 1), (0, 2), (1, 1), (1, 2), (2, 1)):
                some = False
                for rows in itertools.product(all_rows([0, 1, 2]), repeat=(age + 1) * many):
                    paper = [list(rows[now * many:now * many + many]) for now in range(age + 1)]
                    good = few_faults(*shelf, age, many, paper) == set()
                    self.few(shelf, age, many, paper, good)
                    some = some or good
                few = fewest(*shelf, age)
                self.assertEqual(some, few is None or many <= few)

    def test_age_and_number_must_be_those_of_the_paper(self):
        for age, many in itertools.product((0, 1, 2, 3, 100), (0, 1, 2, 3, 100)):
            paper = few_paper(*THREE, 2, 2)
            self.few(THREE, age, many, paper, (age, many) == (2, 2))
        shelf = (40, ALL_PLACES, STRIPES)
        for age, many in ((66, 39), (66, 38), (65, 39), (67, 39), (66, 40), (100, 100)):
            self.few(shelf, age, many, few_paper(*shelf, 66, 39), (age, many) == (66, 39))

    def test_told_papers(self):
        for age in range(6):
            few = fewest(*THREE, age)
            for many in range(6):
                self.few(THREE, age, many, few_paper(*THREE, age, many), few is None or many <= few)
        for age, many in ((0, 1), (1, 20), (100, 1), (9, 100), (100, 20)):
            self.few(NO_CLEAN, age, many, few_paper(*NO_CLEAN, age, many), True)

    def test_somewhat_beyond_the_bounds(self):
        self.few(THREE, -1, 2, [], True)
        self.few(THREE, -1, 2, [[]], False)
        self.few(THREE, 1, -1, [[], []], True)
        self.young(THREE, -1, [], True)
        self.young(THREE, -1, [[2, 4, 6, 6]], False)
        self.few(NO_CLEAN, 110, 3, few_paper(*NO_CLEAN, 110, 3), True)
        self.young(NO_CLEAN, 110, young_paper(*NO_CLEAN, 110), True)

    def test_each_part_broken_alone(self):
        alone = set()
        for size, cuts, takes in [THREE, NO_CLEAN] + list(drawn_shelves(12, 53)) + list(joined_shelves(12, 54)):
            for age in range(4):
                few = fewest(size, cuts, takes, age)
                for many in range(1, 4 if few is None else few + 1):
                    for paper in moved(few_paper(size, cuts, takes, age, many), [0] + cuts + [size]):
                        faults = few_faults(size, cuts, takes, age, many, paper)
                        self.few((size, cuts, takes), age, many, paper, not faults)
                        if len(faults) == 1:
                            alone |= faults
        self.assertEqual(alone, {"form", "a", "b", "c", "d"})

    def test_both_rows_that_are_joined_count(self):
        # Three takes in a row at most, and the last row must have what one and two have, and two and one.
        size, cuts, takes = 4, [1, 2, 3], [("oxxx", 0), ("xoxx", 0), ("xxox", 0), ("xxxo", 0)]
        paper = few_paper(size, cuts, takes, 2, 3)
        self.few((size, cuts, takes), 2, 3, paper, True)
        self.assertEqual(paper[1][1], [2, 3, 4, 4, 4])
        self.assertEqual(paper[2][2], [3, 4, 4, 4, 4])
        for other in ([2, 4, 4, 4, 4], [3, 3, 4, 4, 4], [2, 3, 4, 4, 4]):
            self.few((size, cuts, takes), 2, 3, [paper[0], paper[1], paper[2][:2] + [other]], False)

    def test_numbers_that_are_no_ends(self):
        for paper in changed(few_paper(*THREE, 2, 2), NUMBERS):
            self.few(THREE, 2, 2, paper, False)

    def test_rows_that_fall_and_numbers_below_their_own_end(self):
        shelf = (4, [1, 2], [])
        self.few(shelf, 0, 1, [[[2, 2, 2, 4]]], True)
        for row in ([2, 1, 2, 4], [0, 0, 2, 4], [1, 1, 1, 4], [0, 1, 2, 2], [2, 4, 2, 4]):
            self.few(shelf, 0, 1, [[row]], False)
            self.few(shelf, 0, 2, [[[0, 1, 2, 4], row]], False)
            self.few(shelf, 1, 1, [[[0, 1, 2, 4]], [row]], False)

    def test_papers_of_another_length(self):
        paper = few_paper(*THREE, 2, 2)
        for other in shortened(paper) + [[], [[]], [[], [], []], paper + [[]], [[]] + paper, [paper[0]] * 100000]:
            self.few(THREE, 2, 2, other, False)
        self.few(THREE, 2, 2, [[[]], [[]], [[]]], False)
        self.few(THREE, 2, 2, [[[], []], [[], []], [[], []]], False)
        self.few(THREE, 2, 2, [paper[0], paper[1], [paper[2][0]] * 100000], False)
        for long in ([0] * 100000, [6] * 100000, list(range(100000))):
            self.few(THREE, 2, 2, [paper[0], paper[1], [paper[2][0], long]], False)

    def test_lists_stay_as_they_were(self):
        self.assertKeepsApart(good_few, *THREE, 2, 2, few_paper(*THREE, 2, 2))
        self.assertKeepsApart(good_few, *THREE, 1, 2, few_paper(*THREE, 2, 2))


class GoodAnswer(Judge):
    def test_told_answers(self):
        for shelf in [THREE, NO_CLEAN] + list(drawn_shelves(60, 55)) + list(joined_shelves(60, 56)):
            self.answers(shelf, answer(*shelf), True)

    def test_shelves_of_forty_bars(self):
        for shelf in wide_shelves():
            told = answer(*shelf)
            self.answers(shelf, told, True)
            if told[0] == "make":
                word, make, young, few = told
                self.answers(shelf, (word, make, young[:-1], few), not young)
                self.answers(shelf, (word, make, young, few[:-1]), False)
                self.answers(shelf, (word, 0, young, few), False)

    def test_any_best_make_will_do(self):
        young, few = young_paper(*THREE, 2), few_paper(*THREE, 2, 2)
        self.answers(THREE, ("make", (2, 0, (4, 1, 2)), young, few), True)
        self.answers(THREE, ("make", (4, (2, 0, 1), 2), young, few), True)

    def test_any_good_papers_will_do(self):
        few = few_paper(*THREE, 2, 2)
        self.answers(THREE, ("make", (2, 0, (4, 1, 2)), [[2, 4, 6, 6], [4, 6, 6, 6]], few), True)
        few[0][1] = [4, 6, 6, 6]
        self.answers(THREE, ("make", (2, 0, (4, 1, 2)), [[2, 4, 6, 6], [4, 6, 6, 6]], few), True)

    def test_makes_that_point_7_refuses(self):
        young, few = young_paper(*THREE, 2), few_paper(*THREE, 2, 2)
        for wrong in (-1, -3, 3, 4, 10 ** 20, -(10 ** 20)):
            for make in (wrong, (2, wrong, (4, 1, 2)), (2, 0, (4, wrong, 2)), (2, 0, (4, 1, wrong))):
                self.answers(THREE, ("make", make, young, few), False)
        for wrong in (-2, 0, 1, 3, 6, 7, 10 ** 20):
            for make in ((wrong, 0, (4, 1, 2)), (2, 0, (wrong, 1, 2))):
                self.answers(THREE, ("make", make, young, few), False)
        self.answers(THREE, ("make", (2, 0, (4, 1, (4, 3, 2))), young, few), False)
        self.answers((1, [], []), ("make", 0, [], [[]]), False)

    def test_makes_that_are_not_clean(self):
        young, few = young_paper(*THREE, 2), few_paper(*THREE, 2, 2)
        for make in ((2, 0, (4, 2, 1)), (4, (2, 1, 0), 2), (2, (4, 1, 2), 0), (2, 0, (4, 1, 1))):
            self.assertEqual(made(*THREE, make)[1], 2)
            self.answers(THREE, ("make", make, young, few), False)
        self.answers((2, [1], [("ox", 0)]), ("make", 0, [], [[]]), False)

    def test_clean_makes_that_are_no_best_ones(self):
        shelf = (4, [2], [("oooo", 10), ("ooxx", 0), ("xxoo", 0)])
        for make in (0, (2, 0, 0), (2, 1, 0), (2, (2, 1, 1), 2)):
            age, many = made(*shelf, make)[1], joinings(make)
            self.answers(shelf, ("make", make, young_paper(*shelf, age), few_paper(*shelf, age, many)), False)
            self.answers(shelf, ("make", make, young_paper(*shelf, 1), few_paper(*shelf, 1, 1)), False)
        shelf = (4, [1, 2], [("ooxx", 0), ("xxoo", 0), ("xxoo", 1)])
        make = (2, (1, 0, 0), 2)
        self.assertEqual(made(*shelf, make), ("oooo", 2))
        self.answers(shelf, ("make", make, young_paper(*shelf, 2), few_paper(*shelf, 2, 2)), False)
        make = (2, (1, 0, 0), (1, 1, 1))
        self.answers(shelf, ("make", make, young_paper(*shelf, 2), few_paper(*shelf, 2, 3)), False)

    def test_papers_of_another_age_or_number(self):
        make = (2, 0, (4, 1, 2))
        for age in range(5):
            for old, many in itertools.product(range(4), range(4)):
                told = ("make", make, young_paper(*THREE, age), few_paper(*THREE, old, many))
                self.answers(THREE, told, (age, old, many) == (2, 2, 2))

    def test_papers_of_another_shelf(self):
        make = (2, 0, (4, 1, 2))
        young, few = young_paper(*THREE, 2), few_paper(*THREE, 2, 2)
        fewer = (6, [2, 4], TAKES[:2])
        other = (6, [2, 3], TAKES)
        self.answers(THREE, ("make", make, young_paper(*fewer, 2), few), False)
        self.answers(THREE, ("make", make, young, few_paper(*fewer, 2, 2)), False)
        self.answers(THREE, ("make", make, young_paper(*other, 2), few), False)
        self.answers(THREE, ("make", make, young, few_paper(*other, 2, 2)), False)
        self.answers(fewer, ("make", make, young, few), False)
        self.answers((6, [2, 4], TAKES + [("oooooo", 1)]), ("make", make, young, few), False)
        self.answers((6, [2, 4], TAKES + [("oooooo", 2)]), ("make", make, young, few), False)
        self.answers((6, [2, 4], TAKES + [("oooooo", 3)]), ("make", make, young, few), True)

    def test_broken_papers(self):
        make = (2, 0, (4, 1, 2))
        young, few = young_paper(*THREE, 2), few_paper(*THREE, 2, 2)
        for other in moved(young, [0, 2, 4, 6]) + changed(young, NUMBERS) + shortened(young):
            self.answers(THREE, ("make", make, other, few), not young_faults(*THREE, 2, other))
        for other in moved(few, [0, 2, 4, 6]) + changed(few, NUMBERS) + shortened(few):
            self.answers(THREE, ("make", make, young, other), not few_faults(*THREE, 2, 2, other))

    def test_makes_of_forty_takes(self):
        shelf = (40, ALL_PLACES, STRIPES)
        word, make, young, few = answer(*shelf)
        self.answers(shelf, (word, make, young, few), True)
        left, right = 0, 1
        for place in ALL_PLACES:
            left = (place, left, place % 2)
            right = (40 - place, (39 - place) % 2, right)
        for other in (left, right, chain_left(40, ALL_PLACES), chain_right(40, ALL_PLACES), balanced(40, ALL_PLACES)):
            self.answers(shelf, (word, other, young, few), False)
        self.assertEqual(made(*shelf, left), ("o" * 40, 99))
        self.answers(shelf, (word, left, young_paper(*shelf, 99), few_paper(*shelf, 99, 39)), False)
        takes = [("x" * bar + "o" + "x" * (39 - bar), 39 - bar) for bar in range(40)]
        self.answers((40, ALL_PLACES, takes), answer(40, ALL_PLACES, takes), True)

    def test_bars(self):
        shelf = (8, [2, 4, 6], [("ooxoooxo", 0), ("xoxooxxo", 3)])
        self.answers(shelf, ("bar", 2, 4), True)
        self.answers(shelf, ("bar", 6, 8), True)
        for first, behind in itertools.product(range(-2, 11), repeat=2):
            self.answers(shelf, ("bar", first, behind), (first, behind) in ((2, 4), (6, 8)))
        for first, behind in ((10 ** 20, 10 ** 20), (-(10 ** 20), 4), (2, 10 ** 20), (10 ** 5000, 0)):
            self.answers(shelf, ("bar", first, behind), False)

    def test_bars_without_takes_or_cuts(self):
        self.answers((1, [], []), ("bar", 0, 1), True)
        self.answers((6, [2, 4], []), ("bar", 4, 6), True)
        self.answers((6, [2, 4], []), ("bar", 2, 6), False)
        self.answers((6, [], [("oooxoo", 0)]), ("bar", 0, 6), True)
        self.answers((6, [], [("oooooo", 60)]), ("bar", 0, 6), False)
        self.answers((40, ALL_PLACES, [STRIPES[0]] * 20), ("bar", 39, 40), True)
        self.answers((40, ALL_PLACES, [STRIPES[0]] * 20), ("bar", 38, 39), False)

    def test_lists_stay_as_they_were(self):
        self.assertKeepsApart(good_answer, *THREE, answer(*THREE))
        self.assertKeepsApart(good_answer, *NO_CLEAN, answer(*NO_CLEAN))
        told = copy.deepcopy(answer(*THREE))
        self.assertEqual(len(lists_in(told)), 1 + 2 + 1 + 3 + 6)


if __name__ == "__main__":
    unittest.main()
