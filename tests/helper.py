"""What the tests share: strict comparison, and slow answers straight from the definitions."""

import copy
import itertools
import random
import unittest


class Case(unittest.TestCase):
    def assertTold(self, told, wanted):
        """Equal, and of the same kinds all through: 1 is not True, a tuple no list."""
        self.assertEqual(told, wanted)
        self.assertEqual(kinds(told), kinds(wanted))

    def assertKeepsApart(self, ask, *things):
        """Nothing handed in is changed or kept, what is told is new, and is told again."""
        handed = copy.deepcopy(things)
        told = ask(*handed)
        first = copy.deepcopy(told)
        self.assertTold(handed, things)
        self.assertTold(ask(*handed), first)
        spoil(told)
        self.assertTold(handed, things)
        self.assertTold(ask(*handed), first)
        again = ask(*handed)
        for thing in handed:
            spoil(thing)
        self.assertTold(again, first)
        self.assertTold(ask(*copy.deepcopy(things)), first)

    def assertRefuses(self, error, ask, *things):
        """Raises just that class, and leaves what is handed in as it was."""
        handed = copy.deepcopy(things)
        with self.assertRaises(error) as caught:
            ask(*handed)
        self.assertIs(type(caught.exception), error)
        self.assertTold(handed, things)


def kinds(thing):
    if isinstance(thing, (list, tuple)):
        return type(thing).__name__, [kinds(part) for part in thing]
    return type(thing).__name__


def spoil(thing):
    if isinstance(thing, list):
        thing.reverse()
        thing.append("spoilt")


def all_bars(size):
    return ["".join(signs) for signs in itertools.product("ox", repeat=size)]


def all_cuts(size):
    places = range(1, size)
    return [list(cuts) for many in range(size) for cuts in itertools.combinations(places, many)]


def small_shelves():
    """All shelves of up to 3 bars and up to 2 takes of ages 0 and 1."""
    for size in (1, 2, 3):
        one = [(bars, age) for bars in all_bars(size) for age in (0, 1)]
        for cuts in all_cuts(size):
            for many in (0, 1, 2):
                for takes in itertools.combinations_with_replacement(one, many):
                    yield size, cuts, list(takes)


def drawn_shelves(many, seed):
    """Larger shelves, the same ones each time."""
    chance = random.Random(seed)
    for at in range(many):
        size = chance.randint(3, 6)
        cuts = [place for place in range(1, size) if chance.random() < 0.8]
        takes = []
        for number in range(chance.randint(1, 6)):
            bars = "".join(chance.choice("oox" if at % 2 else "oxx") for bar in range(size))
            takes.append((bars, chance.randint(0, 4)))
        yield size, cuts, takes


def all_made(cuts, takes, age):
    """For each age from 0 to that one, the bars of all makes no older, by joining all with all."""
    told = []
    now = set()
    for this in range(age + 1):
        made = set(bars for bars, old in takes if old <= this)
        for one in now:
            for other in now:
                made.update(one[:place] + other[place:] for place in cuts)
        now = now | made
        told.append(now)
    return told


def slow_reach(size, cuts, made):
    """Point 9, word for word, of the bars of all makes."""
    ends = [0] + cuts + [size]
    told = []
    for end in ends:
        clean = [far for far in ends if far >= end and any("x" not in bars[end:far] for bars in made)]
        told.append(max(clean + [end]))
    return told
