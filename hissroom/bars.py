"""The bars of a take, as a text and as runs, and the joining of two takes."""

from hissroom.errors import BadBars


def is_bars(size, text):
    """Whether the text tells the bars of a take of a song of that size."""
    return len(text) == size and text.count("o") + text.count("x") == size


def runs(text):
    """The runs of a bars text, rising."""
    told = []
    first = 0
    # The spoilt bar added at the end closes a run that goes up to the end.
    for at, sign in enumerate(text + "x"):
        if sign == "x":
            if first < at:
                told.append((first, at))
            first = at + 1
    return told


def bars_of(size, rows):
    """The bars text of which these are the runs."""
    text = ""
    # The first run may begin at 0, so what is ahead of it ends below that.
    end = -1
    for first, behind in rows:
        check_run(size, end, first, behind)
        text += "x" * (first - len(text)) + "o" * (behind - first)
        end = behind
    return text + "x" * (size - len(text))


def check_run(size, end, first, behind):
    """Refuses a run that can't stand behind one with that end."""
    # The words bear no numbers: Python doesn't write numbers of any size.
    if first <= end:
        raise BadBars("a run begins below 0, or not beyond the end of the run ahead of it")
    if behind <= first:
        raise BadBars("a run is empty")
    if behind > size:
        raise BadBars("a run goes beyond the size")


def joined(one, other, place):
    """The take that two takes make, joined at the place."""
    bars, age = one
    other_bars, other_age = other
    # A slice would count a place below 0 from the end.
    cut = max(place, 0)
    return (bars[:cut] + other_bars[cut:], max(age, other_age) + 1)
