"""The wish that so many cells have a value among some."""

from seekhall.keeping import many_kept
from seekhall.wishes import Wish


class Many(Wish):
    def __init__(self, wish):
        Wish.__init__(self, wish)
        self.among = wish[1]
        self.cells = wish[2]
        self.low = wish[3]
        self.high = wish[4]

    def kept(self, filling):
        return many_kept(self.wish, filling)

    def fewest(self, rooms):
        return len([cell for cell in self.cells if all([value in self.among for value in rooms[cell]])])

    def most(self, rooms):
        return len([cell for cell in self.cells if any([value in self.among for value in rooms[cell]])])

    # Each number from the fewest to the most is that of some filling, since cells are filled without regard to others.
    def may_keep(self, rooms):
        return max(self.low, self.fewest(rooms)) <= min(self.high, self.most(rooms))

    def may_break(self, rooms):
        return self.fewest(rooms) < self.low or self.high < self.most(rooms)
