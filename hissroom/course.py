"""A course: the joinings that lead a room to a best make, one by one."""


class Course:
    """Works in the very room that it is made with; others may do deeds there between its steps."""

    def __init__(self, room):
        self.room = room
        self.own_deeds = []

    def step(self, name):
        """Does the next joining under a name, and tells the deed."""
        left, right, place = self.room.coming()
        row = ("join", name, left, right, place)
        self.room.deed(row)
        self.own_deeds.append(row)
        return row

    def steps(self):
        """The deeds that the steps did, also such as were undone since."""
        return list(self.own_deeds)

    def over(self):
        """Whether a clean take of the least age is there."""
        return self.room.few() == 0
