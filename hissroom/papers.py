"""The papers that show how young and how few, and the answer that they go with."""

from hissroom.ends import bar_of, ends
from hissroom.few import best_of, fewest
from hissroom.reach import least_age, next_reach, take_rows
from hissroom.tables import few_tables, no_make


def young_paper(size, cuts, takes, age):
    """Shows that no clean make is younger than the age: the reach at each lesser age."""
    places = ends(size, cuts)
    rows = take_rows(size, cuts, takes)
    told = []
    row = places
    for now in range(age):
        row = next_reach(places, rows, row, now)
        told.append(row)
    return told


def few_paper(size, cuts, takes, age, many):
    """Shows that no clean make no older than the age has fewer joinings: how far so few takes go at each age."""
    places = ends(size, cuts)
    tables = few_tables(size, cuts, takes, age)
    return [few_rows(places, tables[now], many) for now in range(age + 1)]


def few_rows(places, table, many):
    """The rows of ends to which makes go, of one take, of at most two, and so on, by the fewest joinings."""
    told = []
    behinds = list(range(len(places)))
    for joins in range(many):
        # A table says by one more than the cuts that there is no make: never may that be enough.
        enough = min(joins, no_make(places) - 1)
        behinds = [go_on(row, behind, enough) for row, behind in zip(table, behinds)]
        told.append([places[behind] for behind in behinds])
    return told


def go_on(row, behind, joins):
    """How far beyond an end it goes with so many joinings, by the fewest that each end takes."""
    while behind + 1 < len(row) and row[behind + 1] <= joins:
        behind += 1
    return behind


def answer(size, cuts, takes):
    """A best make with its two papers, or the bar."""
    bar = bar_of(size, cuts, takes)
    if bar is not None:
        return ("bar", bar[0], bar[1])
    age = least_age(size, cuts, takes)
    many = fewest(size, cuts, takes, age)
    make = best_of(size, cuts, takes, 0)
    return ("make", make, young_paper(size, cuts, takes, age), few_paper(size, cuts, takes, age, many))
