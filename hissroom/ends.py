"""The ends and pieces between which the blade may cut."""


def ends(size, cuts):
    """The ends, rising: 0, the cuts, the size."""
    return [0] + list(cuts) + [size]


def pieces(size, cuts):
    """The pairs of neighbouring ends, rising."""
    places = ends(size, cuts)
    return list(zip(places, places[1:]))


def farthest(size, cuts, text, end):
    """The farthest end to which a bars text is clean from that end."""
    spoilt = text.find("x", end)
    clean_to = size if spoilt < 0 else spoilt
    return max([end] + [place for place in ends(size, cuts) if place <= clean_to])


def bar_of(size, cuts, takes):
    """The first piece that is clean in no take, or None."""
    for first, behind in pieces(size, cuts):
        if all(["x" in text[first:behind] for text, age in takes]):
            return (first, behind)
    return None
