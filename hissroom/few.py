"""How few joinings a clean make has, and the best makes in their order."""

from hissroom.ends import bar_of, ends
from hissroom.errors import BadMake, BadNumber
from hissroom.reach import least_age, take_rows
from hissroom.tables import few_tables


def fewest(size, cuts, takes, age):
    """The fewest joinings of a clean make no older than the age, or None where there is none."""
    many = few_tables(size, cuts, takes, age)[age][0][-1]
    return many if many <= len(cuts) else None


def count_best(size, cuts, takes):
    """How many best makes there are."""
    if bar_of(size, cuts, takes) is not None:
        return 0
    best = BestMakes(size, cuts, takes)
    return best.counted(best.whole)


def best_of(size, cuts, takes, number):
    """The best make of that number."""
    if bar_of(size, cuts, takes) is not None:
        raise BadNumber("there is no clean make")
    best = BestMakes(size, cuts, takes)
    if number < 0 or number >= best.counted(best.whole):
        raise BadNumber("no best make has that number")
    return best.numbered(best.whole, number)


def number_of(size, cuts, takes, make):
    """The number of a best make."""
    if bar_of(size, cuts, takes) is not None:
        raise BadMake("there is no clean make")
    best = BestMakes(size, cuts, takes)
    return best.rank(best.whole, make)


class BestMakes:
    """The best makes of a shelf that has a clean make.

    A stretch is a triple of an age and the numbers of two ends. What stands for a stretch in a best make is no older
    than the age, clean between the two ends, and has the fewest joinings of all such: with fewer the whole would have
    fewer, too.
    """

    def __init__(self, size, cuts, takes):
        self.places = ends(size, cuts)
        self.rows = take_rows(size, cuts, takes)
        least = least_age(size, cuts, takes)
        self.tables = few_tables(size, cuts, takes, least)
        self.whole = (least, 0, len(self.places) - 1)
        self.counts = {}

    def is_take(self, stretch):
        """Whether single takes stand for a stretch."""
        age, first, behind = stretch
        return self.tables[age][first][behind] == 0

    def clean_takes(self, stretch):
        """The numbers of the takes that can stand for a stretch, rising."""
        age, first, behind = stretch
        end = self.places[behind]
        return [number for number, (old, row) in enumerate(self.rows) if old <= age and row[first] >= end]

    def halves(self, stretch):
        """The ways to part a stretch for a joining, rising: triples of the place and the two stretches."""
        age, first, behind = stretch
        many = self.tables[age][first][behind]
        before = self.tables[age - 1]
        return [
            (self.places[middle], (age - 1, first, middle), (age - 1, middle, behind))
            for middle in range(first + 1, behind)
            if before[first][middle] + before[middle][behind] + 1 == many
        ]

    def counted(self, stretch):
        """How many makes can stand for a stretch."""
        if stretch not in self.counts:
            self.counts[stretch] = self.count_anew(stretch)
        return self.counts[stretch]

    def count_anew(self, stretch):
        """The same, reckoned of its two parts."""
        if self.is_take(stretch):
            return len(self.clean_takes(stretch))
        many = 0
        for place, left, right in self.halves(stretch):
            many += self.counted(left) * self.counted(right)
        return many

    def numbered(self, stretch, number):
        """The make of a number, less than their count, among those that can stand for a stretch."""
        if self.is_take(stretch):
            return self.clean_takes(stretch)[number]
        rest = number
        for place, left, right in self.halves(stretch):
            many = self.counted(right)
            if rest < self.counted(left) * many:
                return (place, self.numbered(left, rest // many), self.numbered(right, rest % many))
            rest -= self.counted(left) * many

    def rank(self, stretch, make):
        """The number of a make among those that can stand for a stretch."""
        if self.is_take(stretch):
            return take_rank(self.clean_takes(stretch), make)
        if not isinstance(make, tuple):
            raise BadMake("a take stands where none is clean")
        ahead = 0
        for place, left, right in self.halves(stretch):
            if place == make[0]:
                return ahead + self.rank(left, make[1]) * self.counted(right) + self.rank(right, make[2])
            ahead += self.counted(left) * self.counted(right)
        raise BadMake("a joining stands where no best make has it")


def take_rank(numbers, make):
    """The place of a take's number among those that can stand there."""
    if make not in numbers:
        raise BadMake("a joining or another take stands where a clean take can stand")
    return numbers.index(make)
