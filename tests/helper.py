"""What the tests share: strict comparison, and slow answers straight from the definitions."""

import collections
import copy
import functools
import itertools
import random
import re
import unittest

from hissroom import errors
from hissroom.room import Room


class Case(unittest.TestCase):
    def assertTold(self, told, wanted):
        """Equal, and of the same kinds all through: 1 is not True, a tuple no list."""
        self.assertEqual(told, wanted)
        self.assertEqual(kinds(told), kinds(wanted))

    def assertKeepsApart(self, ask, *things):
        """Nothing handed in is changed or kept, what is told is new, and is told again."""
        handed = copy.deepcopy(things)
        told = ask(*handed)
        first = copy.deepcopy(told)
        self.assertTold(handed, things)
        self.assertTold(ask(*handed), first)
        lists = lists_in(handed) + lists_in(told) + lists_in(ask(*handed))
        self.assertEqual(len(set(id(one) for one in lists)), len(lists), "a list is there twice")
        spoil(told)
        self.assertTold(handed, things)
        self.assertTold(ask(*handed), first)
        again = ask(*handed)
        for thing in handed:
            spoil(thing)
        self.assertTold(again, first)
        self.assertTold(ask(*copy.deepcopy(things)), first)

    def assertRefuses(self, error, ask, *things):
        """Raises just that class, and leaves what is handed in as it was."""
        handed = copy.deepcopy(things)
        with self.assertRaises(error) as caught:
            ask(*handed)
        self.assertIs(type(caught.exception), error)
        self.assertTold(handed, things)

    def assertLeft(self, room, error, ask, *things):
        """Raises just that class, and leaves the room as it was, in all that can be asked."""
        before = asked(room)
        self.assertRefuses(error, ask, *things)
        self.assertTold(asked(room), before)

    def assertStands(self, room, deeds, ahead=()):
        """The room is as the slow one behind these deeds, with those to do again."""
        self.assertTold(asked(room)[:len(SLOWLY)], asked_slowly(room.size(), list(deeds), list(ahead)))


def kinds(thing):
    if isinstance(thing, (list, tuple)):
        return type(thing).__name__, [kinds(part) for part in thing]
    return type(thing).__name__


def spoil(thing):
    """Changes every list in a thing, the inner ones first."""
    if isinstance(thing, (list, tuple)):
        for part in thing:
            spoil(part)
    if isinstance(thing, list):
        thing.reverse()
        thing.append("spoilt")


def lists_in(thing):
    """All lists in a thing, itself too."""
    if not isinstance(thing, (list, tuple)):
        return []
    within = [inner for part in thing for inner in lists_in(part)]
    return within + [thing] if isinstance(thing, list) else within


def all_bars(size):
    return ["".join(signs) for signs in itertools.product("ox", repeat=size)]


def all_cuts(size):
    places = range(1, size)
    return [list(cuts) for many in range(size) for cuts in itertools.combinations(places, many)]


def small_shelves():
    """All shelves of up to 3 bars and up to 2 takes of ages 0 and 1."""
    for size in (1, 2, 3):
        one = [(bars, age) for bars in all_bars(size) for age in (0, 1)]
        for cuts in all_cuts(size):
            for many in (0, 1, 2):
                for takes in itertools.combinations_with_replacement(one, many):
                    yield size, cuts, list(takes)


def drawn_shelves(many, seed):
    """Larger shelves, the same ones each time."""
    chance = random.Random(seed)
    for at in range(many):
        size = chance.randint(3, 6)
        cuts = [place for place in range(1, size) if chance.random() < 0.8]
        takes = []
        for number in range(chance.randint(1, 6)):
            bars = "".join(chance.choice("oox" if at % 2 else "oxx") for bar in range(size))
            takes.append((bars, chance.randint(0, 4)))
        yield size, cuts, takes


def joined_shelves(many, seed):
    """Shelves of few cuts and takes, of which most have clean makes and no clean take."""
    chance = random.Random(seed)
    for at in range(many):
        size = chance.randint(2, 5)
        cuts = sorted(chance.sample(range(1, size), chance.randint(1, min(3, size - 1))))
        ends = [0] + cuts + [size]
        all_bars = ["", "", ""]
        for first, behind in zip(ends, ends[1:]):
            clean = chance.sample(range(3), chance.choice((1, 1, 2)))
            for number in range(3):
                all_bars[number] += ("o" if number in clean else "x") * (behind - first)
        yield size, cuts, [(bars, chance.choice((0, 0, 0, 1, 2))) for bars in all_bars]


def wide_shelves():
    """Shelves of 40 bars with 20 takes."""
    told = []
    for seed, (clean, oldest, step) in enumerate(itertools.product((0.2, 0.5, 0.8), (0, 4, 60), (1, 2))):
        chance = random.Random(seed)
        takes = []
        for number in range(20):
            bars = "".join("o" if chance.random() < clean else "x" for bar in range(40))
            takes.append((bars, chance.randint(0, oldest)))
        told.append((40, list(range(1, 40, step)), takes))
    return told


def stretches(many, age, wide=1):
    """A shelf whose song needs that many takes, each clean in one stretch."""
    size = many * wide
    takes = [("x" * at * wide + "o" * wide + "x" * (many - at - 1) * wide, age) for at in range(many)]
    return size, [at * wide for at in range(1, many)], takes


def all_made(cuts, takes, age):
    """For each age from 0 to that one, the bars of all makes no older, by joining all with all."""
    told = []
    now = set()
    for this in range(age + 1):
        made = set(bars for bars, old in takes if old <= this)
        for one in now:
            for other in now:
                made.update(one[:place] + other[place:] for place in cuts)
        now = now | made
        told.append(now)
    return told


def slow_reach(size, cuts, made):
    """Point 9, word for word, of the bars of all makes."""
    ends = [0] + cuts + [size]
    told = []
    for end in ends:
        clean = [far for far in ends if far >= end and any("x" not in bars[end:far] for bars in made)]
        told.append(max(clean + [end]))
    return told


def chain_left(many, cuts, number=0):
    """A make of so many takes, each joined behind all those ahead of it."""
    make = number
    for at in range(many - 1):
        make = (cuts[at % len(cuts)], make, number)
    return make


def chain_right(many, cuts, number=0):
    """A make of so many takes, each joined ahead of all those behind it."""
    make = number
    for at in range(many - 1):
        make = (cuts[at % len(cuts)], number, make)
    return make


def balanced(many, cuts, number=0):
    """A make of so many takes, of two halves all through."""
    if many == 1:
        return number
    return (cuts[many % len(cuts)], balanced(many // 2, cuts, number), balanced(many - many // 2, cuts, number))


def slow_made(takes, make):
    """Points 6 and 7, word for word."""
    if isinstance(make, int):
        return takes[make]
    place, left, right = make
    one, other = slow_made(takes, left), slow_made(takes, right)
    return one[0][:place] + other[0][place:], max(one[1], other[1]) + 1


def all_makes(cuts, takes, most):
    """For each number of joinings up to the most, all makes with so many, each with its bars and age."""
    told = [[(number, bars, age) for number, (bars, age) in enumerate(takes)]]
    for many in range(1, most + 1):
        now = []
        for ahead in range(many):
            for place in cuts:
                for left, one, old in told[ahead]:
                    for right, other, older in told[many - 1 - ahead]:
                        now.append(((place, left, right), one[:place] + other[place:], max(old, older) + 1))
        told.append(now)
    return told


def slow_fewest(size, makes, age):
    """Point 13, word for word, of all makes."""
    for many, some in enumerate(makes):
        if any(bars == "o" * size and old <= age for make, bars, old in some):
            return many
    return None


def slow_best(size, makes):
    """The best makes in their order, word for word, of all makes."""
    clean = [(old, many, make) for many, some in enumerate(makes) for make, bars, old in some if bars == "o" * size]
    least = min([old for old, many, make in clean], default=None)
    fewest = min([many for old, many, make in clean if old == least], default=None)
    best = [make for old, many, make in clean if (old, many) == (least, fewest)]
    return sorted(best, key=functools.cmp_to_key(compare))


def compare(one, other):
    """Point 14: below 0 where the one goes first."""
    if isinstance(one, int):
        return one - other
    return one[0] - other[0] or compare(one[1], other[1]) or compare(one[2], other[2])


def slow_count(size, cuts, takes, age):
    """The fewest joinings of clean makes no older than the age, and how many have so few, each cutting where it must."""
    ends = [0] + cuts + [size]

    @functools.cache
    def count(first, behind, age):
        told = collections.Counter()
        told[0] = sum(1 for bars, old in takes if old <= age and "x" not in bars[first:behind])
        if age > 0:
            for middle in ends:
                if first < middle < behind:
                    for one, lefts in count(first, middle, age - 1).items():
                        for other, rights in count(middle, behind, age - 1).items():
                            told[one + other + 1] += lefts * rights
        return +told

    told = count(0, size, age)
    return (min(told), told[min(told)]) if told else (None, 0)


def all_rows(ends):
    """All rows of ends."""
    rows = itertools.product(*[[far for far in ends if far >= end] for end in ends])
    return [list(row) for row in rows if list(row) == sorted(row)]


def is_row(ends, row):
    """Point 15."""
    return (
        len(row) == len(ends)
        and all(far in ends for far in row)
        and all(far >= end for far, end in zip(row, ends))
        and all(row[at] >= row[at - 1] for at in range(1, len(row)))
    )


def short_of_takes(ends, takes, age, row):
    """Whether a row has less than some take no older than the age is clean."""
    for bars, old in takes:
        if old <= age:
            for end, far in zip(ends, row):
                if far < max(other for other in ends if other >= end and "x" not in bars[end:other]):
                    return True
    return False


def short_of_two(ends, row, first, second):
    """Whether a row has less than two others, the second behind the first."""
    return any(far < second[ends.index(middle)] for far, middle in zip(row, first))


def young_faults(size, cuts, takes, age, paper):
    """The parts of point 16 that a paper breaks."""
    ends = [0] + cuts + [size]
    if len(paper) != age or not all(is_row(ends, row) for row in paper):
        return {"form"}
    faults = set()
    for now, row in enumerate(paper):
        if short_of_takes(ends, takes, now, row):
            faults.add("a")
        if now > 0 and short_of_two(ends, row, paper[now - 1], paper[now - 1]):
            faults.add("b")
    if age > 0 and paper[age - 1][0] >= size:
        faults.add("c")
    return faults


def few_faults(size, cuts, takes, age, many, paper):
    """The parts of point 17 that a paper breaks."""
    ends = [0] + cuts + [size]
    if len(paper) != age + 1 or any(len(table) != many for table in paper):
        return {"form"}
    if not all(is_row(ends, row) for table in paper for row in table):
        return {"form"}
    faults = set()
    for now, table in enumerate(paper):
        for t, row in enumerate(table, 1):
            if short_of_takes(ends, takes, now, row):
                faults.add("a")
            if t > 1 and any(far < ahead for far, ahead in zip(row, table[t - 2])):
                faults.add("b")
            for u in range(1, t if now > 0 else 1):
                if short_of_two(ends, row, paper[now - 1][u - 1], paper[now - 1][t - u - 1]):
                    faults.add("c")
    if many > 0 and paper[age][many - 1][0] >= size:
        faults.add("d")
    return faults


def room_with(size, *deeds):
    """A room in which these deeds were done."""
    room = Room(size)
    for row in deeds:
        room.deed(row)
    return room


def by_method(room, row):
    """Does a deed by the method of its name."""
    return getattr(room, row[0])(*row[1:])


def by_deed(room, row):
    return room.deed(row)


def told_or_refused(ask, *things):
    """What is told, or the class of the refusal and its fields."""
    try:
        return ("told", ask(*things))
    except errors.NoWay as way:
        return ("refused", "NoWay", way.first, way.behind)
    except errors.HissError as refusal:
        return ("refused", type(refusal).__name__)


SLOWLY = ("size", "deeds", "ahead", "names", "cuts", "takes", "bars", "age", "parts", "source")


def asked(room):
    """All that can be asked of a room; first what the slow room tells too."""
    names, bars = room.names(), range(room.size())
    told = [
        room.size(),
        room.deeds(),
        room.ahead(),
        names,
        room.cuts(),
        room.takes(),
        [room.bars(name) for name in names],
        [room.age(name) for name in names],
        [room.parts(name) for name in names],
        [[room.source(name, bar) for bar in bars] for name in names],
    ]
    return told + [room.answer(), room.least(), room.few(), room.after([]), told_or_refused(room.coming)]


def slow_stand(size, deeds):
    """Takes and shut places behind deeds that nothing refuses; a bar is one list, shared by all takes that have it."""
    takes, shut = {}, set()
    for row in deeds:
        if row[0] == "put":
            word, name, bars, age = row
            takes[name] = {"bars": [([name, sign], 0) for sign in bars], "age": age, "parts": None}
        elif row[0] == "join":
            word, name, left, right, place = row
            bars = takes[left]["bars"][:place] + takes[right]["bars"][place:]
            takes[name] = {"bars": [(bar, copies + 1) for bar, copies in bars], "parts": (left, right, place)}
        elif row[0] == "found":
            word, name, bar, sign = row
            takes[name]["bars"][bar][0][1] = sign
        elif row[0] == "aged":
            takes[row[1]]["age"] = row[2]
        elif row[0] == "drop":
            del takes[row[1]]
        elif row[0] == "free":
            shut.discard(row[1])
        else:
            shut.add(row[1])
    return takes, shut


def slow_age(takes, name):
    if takes[name]["parts"] is None:
        return takes[name]["age"]
    left, right, place = takes[name]["parts"]
    return max(slow_age(takes, left), slow_age(takes, right)) + 1


def asked_slowly(size, deeds, ahead):
    """What `asked` should tell first, all deeds done anew."""
    takes, shut = slow_stand(size, deeds)
    bars = ["".join(bar[1] for bar, copies in take["bars"]) for take in takes.values()]
    ages = [slow_age(takes, name) for name in takes]
    return [
        size,
        deeds,
        ahead,
        list(takes),
        [place for place in range(1, size) if place not in shut],
        list(zip(bars, ages)),
        bars,
        ages,
        [take["parts"] for take in takes.values()],
        [[(bar[0], copies) for bar, copies in take["bars"]] for take in takes.values()],
    ]


def slow_refusal(size, deeds, row):
    """Point 24, word for word: what a deed refuses behind these, the first that holds; or None."""
    takes, shut = slow_stand(size, deeds)
    word, things = row[0], row[1:]
    new = [
        ("BadName", lambda: not re.fullmatch("[a-z]{1,8}", things[0])),
        ("Taken", lambda: things[0] in takes),
        ("Full", lambda: len(takes) == 20),
    ]
    there = [("NoTake", lambda: things[0] not in takes)]
    place = [("BadPlace", lambda: things[-1] not in range(1, size))]
    age = [("BadAge", lambda: things[-1] not in range(21))]
    table = {
        "put": new + [("BadBars", lambda: not re.fullmatch("[ox]{%d}" % size, things[1]))] + age,
        "join": new
        + [("NoTake", lambda: things[1] not in takes), ("NoTake", lambda: things[2] not in takes)]
        + place
        + [("Shut", lambda: things[3] in shut)],
        "found": there
        + [("BadBar", lambda: things[1] not in range(size)), ("BadBars", lambda: things[2] not in ("o", "x"))],
        "aged": there + [("Joined", lambda: takes[things[0]]["parts"] is not None)] + age,
        "drop": there
        + [("Needed", lambda: any(take["parts"] and things[0] in take["parts"][:2] for take in takes.values()))],
        "free": place,
        "shut": place,
    }
    return next((name for name, holds in table[word] if holds()), None)


def drawn_deed(chance, room):
    """A deed by chance, now and then one that is refused."""
    size = room.size()
    wrong = chance.random() < 0.2
    there = room.names() or ["none"]
    name = chance.choice(there if chance.random() < 0.95 else ["nobody"])
    fresh = chance.choice(["a", "b", "c", "dd", "eeee", "hhhhhhhh"] + (["", "A", "ninethree"] if wrong else []))
    bars = "".join(chance.choice("oox") for bar in range(size + (chance.choice((-1, 1)) if wrong else 0)))
    age = chance.choice((-1, 21)) if wrong else chance.choice((0, 0, 0, 1, 2, 20))
    place = chance.choice((0, size, -1)) if wrong else chance.randint(1, max(size - 1, 1))
    bar = chance.choice((-1, size)) if wrong else chance.randrange(size)
    return chance.choice([
        ("put", fresh, bars, age),
        ("put", fresh, bars, age),
        ("join", fresh, name, chance.choice(there), place),
        ("join", fresh, name, chance.choice(there), place),
        ("found", name, bar, chance.choice(("o", "x"))),
        ("aged", name, age),
        ("drop", name),
        ("free", place),
        ("shut", place),
    ])


def drawn_rooms(many, seed, deeds=25):
    """Rooms by chance, the same ones each time, with some deeds undone in each."""
    chance = random.Random(seed)
    for at in range(many):
        room = Room(chance.choice((1, 2, 3, 4, 4, 5)))
        for count in range(deeds):
            told_or_refused(room.deed, drawn_deed(chance, room))
        for count in range(min(chance.randint(0, 3), len(room.deeds()))):
            room.undo()
        yield room


def shelf_rooms(shelves):
    """For each shelf of first takes a room with it; a take's name is the letter of its number."""
    for size, cuts, takes in shelves:
        deeds = [("put", "abcdefghijklmnopqrst"[at], bars, age) for at, (bars, age) in enumerate(takes)]
        deeds += [("shut", place) for place in range(1, size) if place not in cuts]
        yield room_with(size, *deeds)
