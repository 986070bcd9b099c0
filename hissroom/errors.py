"""What the program refuses with, one class for each refusal."""


class HissError(ValueError):
    """Any refusal."""


class BadBars(HissError):
    """A text, a sign or a row of runs that tells no bars."""


class BadMake(HissError):
    """A make that can't be made on the shelf, or is none of those asked for."""


class BadNumber(HissError):
    """A number that no best make has."""


class BadText(HissError):
    """A text that is not the writing of anything."""


class BadName(HissError):
    """A name that is not of 1 to 8 small letters."""


class BadAge(HissError):
    """An age that no first take may have."""


class BadBar(HissError):
    """A number that no bar of the song has."""


class BadPlace(HissError):
    """A number that no place of the song has."""


class Taken(HissError):
    """A name under which a take is there already."""


class Full(HissError):
    """A room that has no space for another take."""


class NoTake(HissError):
    """A name under which no take is there."""


class Shut(HissError):
    """A place at which the blade may not cut now."""


class Joined(HissError):
    """A joined take where only a first one will do."""


class Needed(HissError):
    """A take of which another one was joined."""


class NothingLeft(HissError):
    """Nothing to undo, to do again, or to join."""


class BadSize(HissError):
    """A size that no song has."""


class NoWay(HissError):
    """No clean make, for the piece from first to behind is clean in no take."""

    def __init__(self, first, behind):
        self.first = first
        self.behind = behind
