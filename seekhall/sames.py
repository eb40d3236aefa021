"""The wish that a cell has a value among some just where another wish is kept."""

from seekhall.behinds import Behind
from seekhall.keeping import same_kept
from seekhall.manies import Many
from seekhall.steps import Way
from seekhall.sums import Sum
from seekhall.tables import Table
from seekhall.unlikes import Unlike
from seekhall.wishes import Wish


# It stands here, since a same needs the wish within it, and no other sort needs one.
def plain_wish_of(wish):
    if wish[0] == "unlike":
        return Unlike(wish)
    if wish[0] == "many":
        return Many(wish)
    if wish[0] == "sum":
        return Sum(wish)
    if wish[0] == "table":
        return Table(wish)
    if wish[0] == "way":
        return Way(wish)
    return Behind(wish)


class Same(Wish):
    def __init__(self, wish):
        Wish.__init__(self, wish)
        self.cell = wish[1]
        self.among = wish[2]
        self.inner = plain_wish_of(wish[3])

    def kept(self, filling):
        return same_kept(self.wish, filling)

    def may_be_among(self, rooms):
        return any([value in self.among for value in rooms[self.cell]])

    def may_be_none_of_them(self, rooms):
        return any([value not in self.among for value in rooms[self.cell]])

    # The cell doesn't stand in the wish within, so both are filled without regard to one another.
    def may_keep(self, rooms):
        return ((self.may_be_among(rooms) and self.inner.may_keep(rooms))
                or (self.may_be_none_of_them(rooms) and self.inner.may_break(rooms)))

    def may_break(self, rooms):
        return ((self.may_be_among(rooms) and self.inner.may_break(rooms))
                or (self.may_be_none_of_them(rooms) and self.inner.may_keep(rooms)))
