import itertools
import re
import unittest

from hissroom.errors import BadMake, BadText
from hissroom.makes import joinings, made, make_of, make_text
from tests.helper import Case, all_makes, balanced, chain_left, chain_right, drawn_shelves, slow_made, small_shelves

TAKES = [("ooxxxx", 0), ("xxooxx", 0), ("xxxxoo", 2)]
CUTS = [2, 4]
ALL_PLACES = list(range(1, 40))
SHAPES = (chain_left, chain_right, balanced)
NO_TAKES = (-1, -2, 3, 4, -(10 ** 20), 10 ** 20, 10 ** 5000)
NO_CUTS = (-2, -1, 0, 1, 3, 5, 6, 7, -(10 ** 20), 10 ** 20, 10 ** 5000)
FIGURES = "(?:0|[1-9][0-9]{0,3})"
JOINING = re.compile(f"\\((?:{FIGURES}|M) {FIGURES} (?:{FIGURES}|M)\\)")


def is_writing(text):
    """Point 20, by putting one sign in the place of each innermost joining."""
    if "M" in text or text.count("(") > 39:
        return False
    many = 1
    while many:
        text, many = JOINING.subn("M", text)
    return re.fullmatch(f"M|{FIGURES}", text) is not None


def numbers_changed(make, wrong):
    """The make with each one of its takes' numbers changed in turn."""
    if isinstance(make, int):
        return [wrong]
    place, left, right = make
    return [(place, other, right) for other in numbers_changed(left, wrong)] + [
        (place, left, other) for other in numbers_changed(right, wrong)
    ]


def places_changed(make, wrong):
    """The make with each one of its places changed in turn."""
    if isinstance(make, int):
        return []
    place, left, right = make
    return (
        [(wrong, left, right)]
        + [(place, other, right) for other in places_changed(left, wrong)]
        + [(place, left, other) for other in places_changed(right, wrong)]
    )


class Made(Case):
    def test_a_number_alone(self):
        for number, take in enumerate(TAKES):
            self.assertTold(made(6, CUTS, TAKES, number), take)
        self.assertTold(made(1, [], [("x", 60)], 0), ("x", 60))

    def test_ordinary(self):
        self.assertTold(made(6, CUTS, TAKES, (2, 0, 1)), ("ooooxx", 1))
        self.assertTold(made(6, CUTS, TAKES, (2, 1, 0)), ("xxxxxx", 1))
        self.assertTold(made(6, CUTS, TAKES, (4, (2, 0, 1), 2)), ("oooooo", 3))
        self.assertTold(made(6, CUTS, TAKES, (2, 0, (4, 1, 2))), ("oooooo", 4))

    def test_the_same_take_many_times(self):
        self.assertTold(made(6, CUTS, TAKES, (2, 0, 0)), ("ooxxxx", 1))
        for shape in SHAPES:
            bars, age = made(6, CUTS, TAKES, shape(40, CUTS, 1))
            self.assertTold(bars, "xxooxx")

    def test_places_in_any_order(self):
        self.assertTold(made(6, CUTS, TAKES, (2, (4, 0, 1), (2, 1, 2))), ("ooxxoo", 4))
        self.assertTold(made(6, CUTS, TAKES, (2, (2, 0, 1), 2)), ("ooxxoo", 3))

    def test_forty_takes(self):
        takes = [("ox" * 20, 60), ("xo" * 20, 7)]
        self.assertTold(made(40, ALL_PLACES, takes, chain_left(40, ALL_PLACES)), ("ox" * 20, 99))
        self.assertTold(made(40, ALL_PLACES, takes, chain_right(40, ALL_PLACES)), ("ox" * 20, 99))
        self.assertTold(made(40, ALL_PLACES, takes, balanced(40, ALL_PLACES)), ("ox" * 20, 66))
        left, right = 0, 39 % 2
        for place in ALL_PLACES:
            left = (place, left, place % 2)
            right = (40 - place, (39 - place) % 2, right)
        self.assertTold(made(40, ALL_PLACES, takes, left), ("o" * 40, 99))
        self.assertTold(made(40, ALL_PLACES, takes, right), ("o" * 40, 99))

    def test_somewhat_more_takes(self):
        for shape in SHAPES:
            for many in (41, 60):
                make = shape(many, CUTS, 2)
                self.assertTold(made(6, CUTS, TAKES, make), slow_made(TAKES, make))

    def test_all_makes_of_small_shelves(self):
        for size, cuts, takes in list(small_shelves()) + list(drawn_shelves(20, 21)):
            for many, makes in enumerate(all_makes(cuts, takes, 2)):
                for make, bars, age in makes[:200]:
                    self.assertTold(made(size, cuts, takes, make), (bars, age))
                    self.assertTold(joinings(make), many)

    def test_numbers_of_no_take(self):
        for wrong in NO_TAKES:
            self.assertRefuses(BadMake, made, 6, CUTS, TAKES, wrong)
            for make in [(2, 0, 1), (4, (2, 0, 1), 2), (2, (4, 0, (2, 1, 1)), (2, 0, 0))]:
                for other in numbers_changed(make, wrong):
                    self.assertRefuses(BadMake, made, 6, CUTS, TAKES, other)

    def test_places_that_are_no_cuts(self):
        for wrong in NO_CUTS:
            for make in [(2, 0, 1), (4, (2, 0, 1), 2), (2, (4, 0, (2, 1, 1)), (2, 0, 0))]:
                for other in places_changed(make, wrong):
                    self.assertRefuses(BadMake, made, 6, CUTS, TAKES, other)

    def test_wrong_numbers_at_any_depth(self):
        for shape in SHAPES:
            make = shape(40, CUTS)
            for other in numbers_changed(make, 3) + numbers_changed(make, -1) + places_changed(make, 3):
                self.assertRefuses(BadMake, made, 6, CUTS, TAKES, other)
            self.assertEqual(len(places_changed(make, 3)), 39)
            self.assertEqual(len(numbers_changed(make, 3)), 40)

    def test_a_wrong_part_of_which_no_bar_is_heard(self):
        self.assertRefuses(BadMake, made, 6, CUTS, TAKES, (2, (4, 0, 3), 1))
        self.assertRefuses(BadMake, made, 6, CUTS, TAKES, (4, 0, (3, 1, 2)))

    def test_no_takes_and_no_cuts(self):
        for number in (-1, 0, 1, 10 ** 20):
            self.assertRefuses(BadMake, made, 6, CUTS, [], number)
            self.assertRefuses(BadMake, made, 6, CUTS, [], (2, number, number))
        for place in (-1, 0, 1, 2, 5, 6, 10 ** 20):
            self.assertRefuses(BadMake, made, 6, [], TAKES, (place, 0, 1))
        self.assertTold(made(6, [], TAKES, 1), TAKES[1])

    def test_twenty_takes_that_are_alike(self):
        self.assertTold(made(2, [1], [("ox", 3)] * 20, (1, 19, 0)), ("ox", 4))
        self.assertRefuses(BadMake, made, 2, [1], [("ox", 3)] * 20, (1, 20, 0))

    def test_lists_stay_as_they_were(self):
        for make in (0, (2, 0, 1), (4, (2, 0, 1), 2)):
            self.assertKeepsApart(made, 6, CUTS, TAKES, make)


class Joinings(Case):
    def test_a_number_alone(self):
        for number in (0, 5, -1, 10 ** 20):
            self.assertTold(joinings(number), 0)

    def test_each_triple_counts(self):
        self.assertTold(joinings((2, 0, 1)), 1)
        self.assertTold(joinings((2, (2, 0, 0), (2, 0, 0))), 3)
        self.assertTold(joinings((-1, 0, (10 ** 20, 0, -5))), 2)

    def test_chains(self):
        for shape in SHAPES:
            for many in (1, 2, 3, 39, 40, 41, 60):
                self.assertTold(joinings(shape(many, CUTS)), many - 1)


class MakeText(Case):
    def test_ordinary(self):
        self.assertTold(make_text(0), "0")
        self.assertTold(make_text(9999), "9999")
        self.assertTold(make_text((2, 0, 1)), "(0 2 1)")
        self.assertTold(make_text((4, (2, 0, 1), 2)), "((0 2 1) 4 2)")
        self.assertTold(make_text((2, 0, (4, 1, 2))), "(0 2 (1 4 2))")
        self.assertTold(make_text((9999, (0, 10, 100), (30, 1000, 9999))), "((10 0 100) 9999 (1000 30 9999))")

    def test_chains(self):
        self.assertTold(make_text(chain_left(40, [7])), "(" * 39 + "0" + " 7 0)" * 39)
        self.assertTold(make_text(chain_right(40, [7])), "(0 7 " * 39 + "0" + ")" * 39)


class MakeOf(Case):
    def test_ordinary(self):
        self.assertTold(make_of("0"), 0)
        self.assertTold(make_of("9999"), 9999)
        self.assertTold(make_of("(0 2 1)"), (2, 0, 1))
        self.assertTold(make_of("((0 2 1) 4 2)"), (4, (2, 0, 1), 2))
        self.assertTold(make_of("(0 2 (1 4 2))"), (2, 0, (4, 1, 2)))
        self.assertTold(make_of("(0 0 0)"), (0, 0, 0))
        self.assertTold(make_of("(10 9999 100)"), (9999, 10, 100))

    def test_every_writing_is_read_back(self):
        for size, cuts, takes in drawn_shelves(6, 22):
            for makes in all_makes(cuts, takes, 2):
                for make, bars, age in makes:
                    self.assertTold(make_of(make_text(make)), make)
        for shape in SHAPES:
            for many in (1, 2, 39, 40):
                make = shape(many, [1, 10, 999, 9999, 0], 9999)
                self.assertTold(make_of(make_text(make)), make)

    def test_one_take_too_many(self):
        for shape in SHAPES:
            self.assertTold(joinings(make_of(make_text(shape(40, CUTS)))), 39)
            for many in (41, 42, 100):
                self.assertRefuses(BadText, make_of, make_text(shape(many, CUTS)))
        self.assertRefuses(BadText, make_of, "(" * 5000 + "0" + " 7 0)" * 5000)

    def test_figures(self):
        for text in ("00", "01", "007", "0000", "10000", "99999", "00000", "1" * 5000, "-1", "+1", "1.0", "1_0", "a"):
            self.assertRefuses(BadText, make_of, text)
            self.assertRefuses(BadText, make_of, f"({text} 2 1)")
            self.assertRefuses(BadText, make_of, f"(0 {text} 1)")
            self.assertRefuses(BadText, make_of, f"(0 2 {text})")
        for text in ("( 2 1)", "(0  1)", "(0 2 )", "()", "(  )"):
            self.assertRefuses(BadText, make_of, text)

    def test_blanks(self):
        for text in ("", " ", "  ", "\n", " 0", "0 ", "0\n", "\n0", "0 0", "0 1 2"):
            self.assertRefuses(BadText, make_of, text)
        for text in (
            " (0 2 1)", "(0 2 1) ", "( 0 2 1)", "(0 2 1 )", "(0  2 1)", "(0 2  1)", "(02 1)", "(0 21)", "(021)",
            "(0 2 1)\n", "\n(0 2 1)", "(0\n2 1)", "(0 2\n1)", "((0 2 1)4 2)", "((0 2 1)  4 2)", "(0 2(1 4 2))",
            "(0 2 (1 4 2) )", "( (0 2 1) 4 2)",
        ):
            self.assertRefuses(BadText, make_of, text)

    def test_brackets(self):
        for text in (
            "(", ")", "()", ")(", "((", "))", "(0", "0)", "(0)", "((0 2 1)", "(0 2 1))", "(0 2 1)(0 2 1)", "(0 2 1) 3",
            "[0 2 1]", "{0 2 1}", "<0 2 1>", "(0 2 1]", "(0, 2, 1)", "(0,2,1)", "(0 2 1) 4 2", "((0 2 1))", "(0 2)",
            "(0 2 1 4)", "(0 (0 2 1) 1)", "((0 2 1) (0 2 1) (0 2 1))", "(0 2 1);", "(0 2 1)x", "x(0 2 1)", "(0 2 1)0",
            "0(0 2 1)", "(0 ( 1)", "(( 2 1)", "(0 2 ()", ") 0 2 1(", "((0 2 1) 4 2", "(0 2 (1 4 2)",
        ):
            self.assertRefuses(BadText, make_of, text)

    def test_long_rows(self):
        for sign in ("(", ")", " ", "0", "()", "(0", "0)", "(0 2 ", " 2 0)", "0 ", "\n", "((0 2 1)"):
            for many in (39, 40, 41, 100000):
                self.assertRefuses(BadText, make_of, sign * many)
        self.assertRefuses(BadText, make_of, "(" * 39 + ")" * 39)
        self.assertRefuses(BadText, make_of, "(0 7 " * 39 + "0" + ")" * 38)
        self.assertRefuses(BadText, make_of, "(0 7 " * 39 + "0" + ")" * 40)
        self.assertRefuses(BadText, make_of, "(0 7 " * 38 + "0" + ")" * 39)

    def test_all_short_texts(self):
        for many in range(8):
            for signs in itertools.product("( )01", repeat=many):
                text = "".join(signs)
                if is_writing(text):
                    self.assertTold(make_text(make_of(text)), text)
                else:
                    self.assertRaises(BadText, make_of, text)

    def test_writings_with_one_sign_changed(self):
        for text in ("7", "10", "(0 2 1)", "((0 12 1) 4 20)", "(10 2 (1 4 2))", "((1 2 3) 10 (4 5 6))"):
            for at in range(len(text) + 1):
                for sign in ["", "(", ")", " ", "  ", "0", "1", "\n", "x", "-", "[", "()", "0 "]:
                    for other in (text[:at] + sign + text[at:], text[:at] + sign + text[at + 1:]):
                        if is_writing(other):
                            self.assertTold(make_text(make_of(other)), other)
                        else:
                            self.assertRaises(BadText, make_of, other)


if __name__ == "__main__":
    unittest.main()
