"""The fewest joinings between each two ends, age by age."""

from hissroom.ends import ends
from hissroom.reach import clean_row, take_rows, youngest


def few_tables(size, cuts, takes, age):
    """For each age from 0 to that one its table, by ages.

    A table has a row for each end, and in it for each end the fewest joinings of a make no older than the age that is
    clean from the one to the other: 0 where there is nothing between them, and one more than there are cuts where
    there is no such make.
    """
    places = ends(size, cuts)
    rows = take_rows(size, cuts, takes)
    ages = [old for text, old in takes]
    table = bare_table(places)
    changing = False
    told = {}
    for now in range(min(youngest(takes), 0, age), age + 1):
        # A table is as the one ahead where that was so too and no take comes in.
        if changing or now in ages:
            before = table
            table = next_table(places, clean_row(places, rows, now), before)
            changing = table != before
        told[now] = table
    return told


def no_make(places):
    """More joinings than any make needs: it cuts at each place between the two outer ends at most once."""
    return len(places) - 1


def bare_table(places):
    """The table at an age below that of all takes."""
    none = no_make(places)
    return [[0 if behind <= first else none for behind in range(len(places))] for first in range(len(places))]


def next_table(places, clean, before):
    """The table at an age, of the farthest ends to which the takes are clean and the table at the age less 1."""
    columns = [[row[at] for row in before] for at in range(len(before))]
    none = no_make(places)
    told = []
    for first, (row, far) in enumerate(zip(before, clean)):
        told.append([
            0 if end <= far else fewest_joined(row[first + 1:behind], columns[behind][first + 1:behind], none)
            for behind, end in enumerate(places)
        ])
    return told


def fewest_joined(lefts, rights, none):
    """The fewest joinings of what is joined at one of the ends between, of the joinings to and from each."""
    return min([none] + [left + right + 1 for left, right in zip(lefts, rights)])
