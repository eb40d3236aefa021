"""The wish that the values of cells are one of some rows."""

from seekhall.keeping import table_kept
from seekhall.wishes import Wish


class Table(Wish):
    def __init__(self, wish):
        Wish.__init__(self, wish)
        self.cells = wish[1]
        self.rows = wish[2]

    def kept(self, filling):
        return table_kept(self.wish, filling)

    def has_room(self, row, rooms):
        return all([value in rooms[cell] for cell, value in zip(self.cells, row)])

    def rows_in(self, rooms):
        return [row for row in self.rows if self.has_room(row, rooms)]

    def may_keep(self, rooms):
        return len(self.rows_in(rooms)) > 0

    # Rows are unlike, so each stands for one filling: where there are more fillings than rows, one is no row.
    def may_break(self, rooms):
        fillings = 1
        for cell in self.cells:
            fillings *= len(rooms[cell])
        return len(self.rows_in(rooms)) < fillings
