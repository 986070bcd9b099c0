"""Sheets: a room written as a text, and read again."""

from hissroom.errors import BadText, HissError
from hissroom.makes import number_of_figures
from hissroom.room import Room

# For the first word of a row: whether each thing behind it is a number.
NUMBERS = {
    "song": (True,),
    "put": (False, False, True),
    "join": (False, False, False, True),
    "found": (False, True, False),
    "aged": (False, True),
    "drop": (False,),
    "free": (True,),
    "shut": (True,),
}


def sheet(room):
    """The writing of a room: its size and the deeds that are kept."""
    rows = [("song", room.size())] + room.deeds()
    return "\n".join([" ".join([str(thing) for thing in row]) for row in rows])


def room_of(text):
    """The room of which this is the writing."""
    rows = [row_of(line) for line in text.split("\n")]
    if rows[0][0] != "song":
        raise BadText("the first row doesn't tell the song")
    if "song" in [row[0] for row in rows[1:]]:
        raise BadText("the song is told again")
    room = room_behind(rows[0][1], rows[1:])
    # Noughts ahead of figures were let by: the writing itself tells them.
    if sheet(room) != text:
        raise BadText("the text is not the writing of its room")
    return room


def row_of(line):
    """The tuple that a row of a sheet tells."""
    word, *things = line.split(" ")
    if word not in NUMBERS or len(things) != len(NUMBERS[word]):
        raise BadText("a row is neither the song nor a deed with its things")
    told = [number_of_figures(thing) if number else thing for thing, number in zip(things, NUMBERS[word])]
    return tuple([word] + told)


def room_behind(size, deeds):
    """The room of that size in which these deeds were done."""
    try:
        room = Room(size)
        for row in deeds:
            room.deed(row)
    except HissError:
        raise BadText("the size or a deed is refused") from None
    return room
