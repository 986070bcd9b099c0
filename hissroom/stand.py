"""How a room stands at one time, and how it stands behind a deed."""

from hissroom.bars import is_bars, joined
from hissroom.errors import BadAge, BadBar, BadBars, BadName, BadPlace, Full, Joined, Needed, NoTake, Shut, Taken

MOST_LETTERS = 8
MOST_TAKES = 20
OLDEST = 20


class Stand:
    """The takes that are there and the places that are shut.

    A stand is never changed, a deed makes another one of it: so a room keeps those that were, and twins share them.
    `made_of` has the names in the order in which the takes came, with None for a first take and the triple (left,
    right, place) for a joined one; `firsts` has the first takes by names; `closed` has the shut places.
    """

    def __init__(self, length, made_of, firsts, closed):
        self.length = length
        self.made_of = made_of
        self.firsts = firsts
        self.closed = closed

    def check_there(self, name):
        """Refuses a name under which no take is there."""
        if name not in self.made_of:
            raise NoTake("no take of that name is there")

    def parts(self, name):
        """The triple (left, right, place) of a joined take, None for a first one."""
        self.check_there(name)
        return self.made_of[name]

    def source(self, name, bar):
        """The pair of the first take of which a bar comes and how many copies it has gone through."""
        parts = self.parts(name)
        if bar < 0 or bar >= self.length:
            raise BadBar("the song has no bar of that number")
        copies = 0
        while parts is not None:
            left, right, place = parts
            name = left if bar < place else right
            parts = self.made_of[name]
            copies += 1
        return (name, copies)

    def takes_by_names(self):
        """All takes as they are now, in the order in which they came."""
        told = {}
        # Both takes of a joined one came ahead of it, and neither can go as long as it is there.
        for name, parts in self.made_of.items():
            if parts is None:
                told[name] = self.firsts[name]
            else:
                left, right, place = parts
                told[name] = joined(told[left], told[right], place)
        return told

    def take(self, name):
        """A take as it is now."""
        self.check_there(name)
        return self.takes_by_names()[name]

    def shelf(self):
        """The shelf: the size, the free places as cuts, and the takes."""
        cuts = [place for place in range(1, self.length) if place not in self.closed]
        return (self.length, cuts, list(self.takes_by_names().values()))


def put(stand, row):
    """How it stands behind a first take that is put on the shelf."""
    word, name, bars, age = row
    check_new(stand, name)
    if not is_bars(stand.length, bars):
        raise BadBars("the text doesn't tell the bars of a take of this song")
    check_age(age)
    made_of = with_key(stand.made_of, name, None)
    return Stand(stand.length, made_of, with_key(stand.firsts, name, (bars, age)), stand.closed)


def join(stand, row):
    """How it stands behind a take that is joined of two."""
    word, name, left, right, place = row
    check_new(stand, name)
    stand.check_there(left)
    stand.check_there(right)
    check_place(stand, place)
    if place in stand.closed:
        raise Shut("the blade may not cut there now")
    return Stand(stand.length, with_key(stand.made_of, name, (left, right, place)), stand.firsts, stand.closed)


def found(stand, row):
    """How it stands behind a sign that is found for a bar."""
    word, name, bar, sign = row
    first, copies = stand.source(name, bar)
    if sign != "o" and sign != "x":
        raise BadBars("the sign of a bar is o or x")
    bars, age = stand.firsts[first]
    heard = (bars[:bar] + sign + bars[bar + 1:], age)
    return Stand(stand.length, stand.made_of, with_key(stand.firsts, first, heard), stand.closed)


def aged(stand, row):
    """How it stands behind an age that is found for a first take."""
    word, name, age = row
    if stand.parts(name) is not None:
        raise Joined("the age of a joined take is that of its parts")
    check_age(age)
    bars, before = stand.firsts[name]
    return Stand(stand.length, stand.made_of, with_key(stand.firsts, name, (bars, age)), stand.closed)


def drop(stand, row):
    """How it stands behind a take that is dropped."""
    word, name = row
    stand.check_there(name)
    if any([parts is not None and name in parts[:2] for parts in stand.made_of.values()]):
        raise Needed("a take that is there was joined of it")
    made_of = without_key(stand.made_of, name)
    return Stand(stand.length, made_of, without_key(stand.firsts, name), stand.closed)


def free(stand, row):
    """How it stands behind a place that is freed."""
    word, place = row
    check_place(stand, place)
    return Stand(stand.length, stand.made_of, stand.firsts, without_key(stand.closed, place))


def shut(stand, row):
    """How it stands behind a place that is shut."""
    word, place = row
    check_place(stand, place)
    return Stand(stand.length, stand.made_of, stand.firsts, with_key(stand.closed, place, True))


DEEDS = {"put": put, "join": join, "found": found, "aged": aged, "drop": drop, "free": free, "shut": shut}


def stand_behind(stand, row):
    """How it stands behind a deed."""
    deed = DEEDS[row[0]]
    return deed(stand, row)


def check_new(stand, name):
    """Refuses a name under which no take can come."""
    if len(name) < 1 or len(name) > MOST_LETTERS or not all(["a" <= sign <= "z" for sign in name]):
        raise BadName("a name has 1 to 8 small letters")
    if name in stand.made_of:
        raise Taken("a take of that name is there")
    if len(stand.made_of) >= MOST_TAKES:
        raise Full("no more than 20 takes can be there")


def check_age(age):
    """Refuses an age that no first take may have."""
    if age < 0 or age > OLDEST:
        raise BadAge("the age of a first take is from 0 to 20")


def check_place(stand, place):
    """Refuses a place that the song doesn't have."""
    if place < 1 or place >= stand.length:
        raise BadPlace("a place is from 1 to the size less 1")


def with_key(table, key, thing):
    """A new dict like the one handed in, but with that thing under the key."""
    told = dict(table)
    told[key] = thing
    return told


def without_key(table, key):
    """A new dict like the one handed in, but without the key."""
    return {other: thing for other, thing in table.items() if other != key}
