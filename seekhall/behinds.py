"""The wish that each cell is at least some gap more than the one ahead of it."""

from seekhall.keeping import behind_kept
from seekhall.wishes import Wish


class Behind(Wish):
    def __init__(self, wish):
        Wish.__init__(self, wish)
        self.cells = wish[1]
        self.gap = wish[2]

    def kept(self, filling):
        return behind_kept(self.wish, filling)

    # The least value that can be taken leaves the most to the cells behind.
    def may_keep(self, rooms):
        least = min(rooms[self.cells[0]])
        for cell in self.cells[1:]:
            enough = [value for value in rooms[cell] if least + self.gap <= value]
            if len(enough) == 0:
                return False
            least = min(enough)
        return True

    def may_break(self, rooms):
        pairs = list(zip(self.cells, self.cells[1:]))
        return any([max(rooms[ahead]) + self.gap > min(rooms[later]) for ahead, later in pairs])
