"""How far makes of an age are clean, and how young a clean make can be."""

from hissroom.ends import bar_of, ends, farthest


def reach(size, cuts, takes, age):
    """For each end the farthest one to which some make no older than the age is clean."""
    places = ends(size, cuts)
    rows = take_rows(size, cuts, takes)
    told = places
    for now in range(youngest(takes), age + 1):
        told = next_reach(places, rows, told, now)
    return told


def least_age(size, cuts, takes):
    """The least age of a clean make, or None where there is none."""
    # A shelf with a bar never reaches its size: the loop below would not end.
    if bar_of(size, cuts, takes) is not None:
        return None
    places = ends(size, cuts)
    rows = take_rows(size, cuts, takes)
    age = youngest(takes)
    told = next_reach(places, rows, places, age)
    while told[0] != size:
        age += 1
        told = next_reach(places, rows, told, age)
    return age


def youngest(takes):
    """The age of the youngest take: below it no make is, and each end reaches itself alone."""
    return min([age for text, age in takes], default=0)


def take_rows(size, cuts, takes):
    """For each take the pair of its age and the list of the farthest ends to which it is clean."""
    places = ends(size, cuts)
    return [(age, [farthest(size, cuts, text, end) for end in places]) for text, age in takes]


def clean_row(places, rows, age):
    """For each end the farthest one to which some take no older than the age is clean, of the takes' rows."""
    told = list(places)
    for take_age, row in rows:
        if take_age <= age:
            told = [max(far, other) for far, other in zip(told, row)]
    return told


def next_reach(places, rows, before, age):
    """The reach at an age, of the takes' rows and the reach at the age less 1."""
    where = {end: at for at, end in enumerate(places)}
    clean = clean_row(places, rows, age)
    return [max(far, before[where[middle]]) for far, middle in zip(clean, before)]
