"""A room: takes by names, places of the blade, and the deeds that are done there."""

from hissroom.ends import bar_of
from hissroom.errors import BadSize, NothingLeft, NoWay
from hissroom.few import best_of, fewest
from hissroom.makes import unfolded
from hissroom.papers import answer
from hissroom.reach import least_age
from hissroom.stand import Stand, stand_behind

LONGEST = 40


class Room:
    """The takes of one song, and where the blade may cut.

    All deeds that were done stand in a row, those that were undone too, behind the others; `done` is how many are
    kept. The stands are one more: how it stood at first, and behind each deed.
    """

    def __init__(self, size):
        if size < 1 or size > LONGEST:
            raise BadSize("a song has 1 to 40 bars")
        self.stands = [Stand(size, {}, {}, {})]
        self.rows = []
        self.done = 0

    def now(self):
        """How the room stands."""
        return self.stands[self.done]

    def put(self, name, bars, age):
        """Puts a first take on the shelf."""
        self.deed(("put", name, bars, age))

    def join(self, name, left, right, place):
        """Joins two takes at a place."""
        self.deed(("join", name, left, right, place))

    def found(self, name, bar, sign):
        """Tells how a bar is found, on whatever take it is heard."""
        self.deed(("found", name, bar, sign))

    def aged(self, name, age):
        """Tells how old a first take is found."""
        self.deed(("aged", name, age))

    def drop(self, name):
        """Takes a take away."""
        self.deed(("drop", name))

    def free(self, place):
        """Lets the blade cut at a place."""
        self.deed(("free", place))

    def shut(self, place):
        """Lets the blade no longer cut at a place."""
        self.deed(("shut", place))

    def deed(self, row):
        """Does what a tuple says."""
        # A refusal comes ahead of all that is changed here; what was undone goes.
        stand = stand_behind(self.now(), row)
        self.stands[self.done + 1:] = [stand]
        self.rows[self.done:] = [row]
        self.done += 1

    def undo(self):
        """Undoes the last deed that is kept, and tells it."""
        if self.done == 0:
            raise NothingLeft("no deed is kept")
        self.done -= 1
        return self.rows[self.done]

    def redo(self):
        """Does again what was undone last, and tells it."""
        if self.done == len(self.rows):
            raise NothingLeft("no deed was undone")
        self.done += 1
        return self.rows[self.done - 1]

    def deeds(self):
        """The deeds that are kept."""
        return self.rows[:self.done]

    def ahead(self):
        """The deeds that can be done again, the next one first."""
        return self.rows[self.done:]

    def size(self):
        """How many bars the song has."""
        return self.now().length

    def names(self):
        """The names of the takes, in the order in which they came."""
        return list(self.now().made_of)

    def bars(self, name):
        """The bars of a take as they are now."""
        return self.now().take(name)[0]

    def age(self, name):
        """The age of a take as it is now."""
        return self.now().take(name)[1]

    def parts(self, name):
        """The triple (left, right, place) of a joined take, None for a first one."""
        return self.now().parts(name)

    def source(self, name, bar):
        """The pair of the first take of which a bar comes and how many copies it has gone through."""
        return self.now().source(name, bar)

    def cuts(self):
        """The free places, rising."""
        size, cuts, takes = self.now().shelf()
        return cuts

    def takes(self):
        """The takes as they are now, in the order of their names."""
        size, cuts, takes = self.now().shelf()
        return takes

    def answer(self):
        """A best make of the room's shelf with its two papers, or the bar."""
        size, cuts, takes = self.now().shelf()
        return answer(size, cuts, takes)

    def least(self):
        """The least age of a clean make, or None."""
        size, cuts, takes = self.now().shelf()
        return least_age(size, cuts, takes)

    def few(self):
        """The fewest joinings of a clean make of the least age, or None."""
        told = least_and_few(self.now())
        return None if told is None else told[1]

    def after(self, deeds):
        """The pair of the least age and the fewest joinings behind some deeds, or None; none of them is done."""
        stand = self.now()
        for row in deeds:
            stand = stand_behind(stand, row)
        return least_and_few(stand)

    def coming(self):
        """The next joining: the triple (left name, right name, place)."""
        size, cuts, takes = self.now().shelf()
        bar = bar_of(size, cuts, takes)
        if bar is not None:
            raise NoWay(bar[0], bar[1])
        joining = joining_of_takes(best_of(size, cuts, takes, 0))
        if joining is None:
            raise NothingLeft("a clean take of the least age is there")
        place, left, right = joining
        names = self.names()
        return (names[left], names[right], place)

    def twin(self):
        """A room alike; what is done to one isn't done to the other."""
        room = Room(self.size())
        room.stands = list(self.stands)
        room.rows = list(self.rows)
        room.done = self.done
        return room


def least_and_few(stand):
    """The pair of the least age and the fewest joinings at it, or None where there is no clean make."""
    size, cuts, takes = stand.shelf()
    age = least_age(size, cuts, takes)
    if age is None:
        return None
    return (age, fewest(size, cuts, takes, age))


def joining_of_takes(make):
    """A joining in a make whose two parts are takes, or None where the make is a take itself."""
    # With such a joining done, the new take stands for it in the make, which has one joining fewer then. It is needed
    # for one stretch alone, the one round the place: else one of the two takes would do. So no make has still fewer.
    for part in unfolded(make):
        if isinstance(part, tuple) and isinstance(part[1], int) and isinstance(part[2], int):
            return part
    return None
