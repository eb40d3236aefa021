"""The wish that no two cells have one value."""

from seekhall.keeping import unlike_kept
from seekhall.wishes import Wish


# A value that another cell holds is taken where that cell finds another one; so each value is tried once a cell.
def finds_value(cell, rooms, holders, tried):
    for value in rooms[cell]:
        if value not in tried:
            tried[value] = True
            if value not in holders or finds_value(holders[value], rooms, holders, tried):
                holders[value] = cell
                return True
    return False


class Unlike(Wish):
    def __init__(self, wish):
        Wish.__init__(self, wish)
        self.cells = wish[1]

    def kept(self, filling):
        return unlike_kept(self.wish, filling)

    def may_keep(self, rooms):
        holders = {}
        for cell in self.cells:
            if not finds_value(cell, rooms, holders, {}):
                return False
        return True

    def may_break(self, rooms):
        seen = {}
        for cell in self.cells:
            for value in rooms[cell]:
                if value in seen:
                    return True
                seen[value] = True
        return False
