"""Makes: what they make of a shelf's takes, and how they are written."""

from hissroom.bars import joined
from hissroom.errors import BadMake, BadText

MOST_TAKES = 40
MOST_FIGURES = 4


def unfolded(make):
    """All makes within a make, itself first: ahead of its left, and that ahead of its right."""
    told = []
    # A list of what is left in place of calls within calls: a make may be one long chain.
    coming = [make]
    while coming:
        part = coming.pop()
        told.append(part)
        if isinstance(part, tuple):
            place, left, right = part
            coming.extend([right, left])
    return told


def made(size, cuts, takes, make):
    """The take that a make makes of the takes of a shelf."""
    ready = []
    # From the last one on, both parts of a joining are ready ahead of it, the left one on top.
    for part in reversed(unfolded(make)):
        if isinstance(part, tuple):
            left = ready.pop()
            right = ready.pop()
            ready.append(joined(left, right, checked_place(cuts, part[0])))
        else:
            ready.append(take_of(takes, part))
    return ready[0]


def checked_place(cuts, place):
    """The place, where it is one of the cuts."""
    if place not in cuts:
        raise BadMake("a place in the make is none of the cuts")
    return place


def take_of(takes, number):
    """The take of a number."""
    if number < 0 or number >= len(takes):
        raise BadMake("a number in the make is none of a take")
    return takes[number]


def joinings(make):
    """How many joinings a make has."""
    return len([part for part in unfolded(make) if isinstance(part, tuple)])


def make_text(make):
    """The writing of a make."""
    ready = []
    for part in reversed(unfolded(make)):
        if isinstance(part, tuple):
            left = ready.pop()
            right = ready.pop()
            ready.append(f"({left} {part[0]} {right})")
        else:
            ready.append(str(part))
    return ready[0]


def make_of(text):
    """The make of which this is the writing."""
    # Each joining is one bracket, and one take is more than the joinings.
    if text.count("(") >= MOST_TAKES:
        raise BadText("the text has too many takes")
    make = loose_make(text.replace("(", "( ").replace(")", " )").split())
    # Blanks and noughts too many or too few were let by: the writing itself tells them.
    if make_text(make) != text:
        raise BadText("the text is not the writing of its make")
    return make


def loose_make(words):
    """The make of the words of a text: brackets and figures."""
    ready = []
    for word in words:
        if word == ")":
            close_bracket(ready)
        elif word == "(":
            ready.append(word)
        else:
            ready.append(number_of_figures(word))
    if len(ready) != 1 or ready[0] == "(":
        raise BadText("the text is no single make")
    return ready[0]


def close_bracket(ready):
    """Puts a triple in the place of its bracket and its three things, the last four that are ready."""
    if len(ready) < 4:
        raise BadText("a bracket is closed too early")
    bracket, left, place, right = ready[-4:]
    if bracket != "(" or left == "(" or right == "(" or not isinstance(place, int):
        raise BadText("a bracket has not a make, a place and a make in it")
    del ready[-4:]
    ready.append((place, left, right))


def number_of_figures(word):
    """The number that is written by one to four figures."""
    if not word.isdecimal() or len(word) > MOST_FIGURES:
        raise BadText("a number is not one to four figures")
    return int(word)
