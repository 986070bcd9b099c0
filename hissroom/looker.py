"""A looker who trusts nobody: judges papers and answers by what they must have."""

from hissroom.ends import ends, pieces
from hissroom.errors import BadMake
from hissroom.makes import joinings, made
from hissroom.reach import clean_row, take_rows


def good_young(size, cuts, takes, age, paper):
    """Whether the paper shows that no clean make is younger than the age."""
    places = ends(size, cuts)
    if not are_rows(places, age, paper):
        return False
    rows = take_rows(size, cuts, takes)
    for now, row in enumerate(paper):
        if not is_beyond(row, clean_row(places, rows, now)):
            return False
        if now > 0 and not is_beyond(row, gone_on(steps_of(places, paper[now - 1]), paper[now - 1])):
            return False
    return age <= 0 or paper[-1][0] < size


def good_few(size, cuts, takes, age, many, paper):
    """Whether the paper shows that no clean make no older than the age has fewer joinings."""
    places = ends(size, cuts)
    if len(paper) != len(range(age + 1)) or not all([are_rows(places, many, table) for table in paper]):
        return False
    rows = take_rows(size, cuts, takes)
    for now, table in enumerate(paper):
        if not is_table(table, clean_row(places, rows, now)):
            return False
        if now > 0 and not is_table_behind(places, table, paper[now - 1]):
            return False
    return age < 0 or many <= 0 or paper[-1][-1][0] < size


def good_answer(size, cuts, takes, told):
    """Whether an answer is good."""
    if told[0] == "bar":
        return is_bar(size, cuts, takes, told[1:])
    word, make, young, few = told
    try:
        bars, age = made(size, cuts, takes, make)
    except BadMake:
        return False
    if "x" in bars or not good_young(size, cuts, takes, age, young):
        return False
    return good_few(size, cuts, takes, age, joinings(make), few)


def is_bar(size, cuts, takes, piece):
    """Whether it is a piece that is clean in no take."""
    first, behind = piece
    return piece in pieces(size, cuts) and all(["x" in bars[first:behind] for bars, age in takes])


def are_rows(places, many, rows):
    """Whether they are so many rows of ends."""
    # No row is looked at where they are too many: there may be any number of them.
    if len(rows) != len(range(many)):
        return False
    known = {end: True for end in places}
    return all([is_row(places, known, row) for row in rows])


def is_row(places, known, row):
    """Whether it is a row of ends, of which all are known."""
    if len(row) != len(places) or not all([far in known for far in row]):
        return False
    return is_beyond(row, places) and is_beyond(row[1:], row)


def is_beyond(row, least):
    """Whether a row has at least what another has, for each end."""
    return all([far >= other for far, other in zip(row, least)])


def is_table(table, clean):
    """Whether each row has at least what single takes have, and what the row ahead of it has."""
    ahead = clean
    for row in table:
        # The first row has the clean one ahead of it, and so each one later is beyond that too.
        if not is_beyond(row, ahead):
            return False
        ahead = row
    return True


def is_table_behind(places, table, before):
    """Whether each row has at least what any two rows of the table before have, for as many takes in all."""
    steps = [steps_of(places, row) for row in before]
    for at, row in enumerate(table):
        for first in range(at):
            if not is_beyond(row, gone_on(steps[first], before[at - first - 1])):
                return False
    return True


def steps_of(places, row):
    """For each end the number of the end that the row has for it."""
    where = {end: at for at, end in enumerate(places)}
    return [where[far] for far in row]


def gone_on(steps, row):
    """For each end what the row has for the end to which the steps go from there."""
    return [row[step] for step in steps]
