"""Seeking a filling that keeps all wishes, or a paper that there is none."""

from seekhall.cases import case_of, case_of_group, groups_of
from seekhall.forms import cells_of
from seekhall.halls import first_rooms
from seekhall.lookers import dead_by, taken_by
from seekhall.sorts import may_be_kept, wish_of
from seekhall.trails import Trail


# A search comes to the same rooms again and again: what a wish told of them once is kept as long as the search lasts.
class Remembering:
    def __init__(self, wish):
        self.wish = wish
        self.asked = wish_of(wish)
        self.cells = cells_of(wish)
        self.told = {}

    def may_keep(self, rooms):
        seen = tuple([rooms[cell] for cell in self.cells])
        if seen not in self.told:
            self.told[seen] = self.asked.may_keep(rooms)
        return self.told[seen]


# Of wishes by their numbers, each of which may be kept in the rooms.
class Search:
    def __init__(self, rooms, wishes):
        self.first = rooms
        self.trail = Trail(rooms)
        self.lookers = {}
        # Of each cell the numbers of the wishes in which it stands.
        self.standing = dict([(cell, []) for cell in rooms])
        for number in wishes:
            self.lookers[number] = Remembering(wishes[number])
            for cell in cells_of(wishes[number]):
                self.standing[cell].append(number)
        # The numbers of those to look at again, as keys.
        self.waiting = dict([(number, True) for number in wishes])
        # Each line with those that it leans on.
        self.paper = {}

    def wake(self, cell, but):
        for number in self.standing[cell]:
            if number != but:
                self.waiting[number] = True

    # A dead line, or None.
    def look_by(self, number):
        clause = dead_by(self.lookers[number], self.first, self.trail.now)
        if clause is not None:
            return (number, clause)
        for taken in taken_by(self.lookers[number], self.first, self.trail.now):
            self.trail.take_away(taken[0], taken[1], (number, taken[2]))
            self.wake(taken[0], number)
        return None

    # Until it is dead or nothing more is taken away: a dead line, or None.
    def look(self):
        while len(self.waiting) > 0:
            number = min(list(self.waiting))
            self.waiting.pop(number)
            dead = self.look_by(number)
            if dead is not None:
                return dead
        return None

    # The clause that shuts out the choices of which it died.
    def learn(self, dead):
        why = self.trail.why_dead(dead)
        for line in why[0]:
            self.paper.setdefault(line, [])
        if dead[1] != ():
            self.paper.setdefault((None, why[1]), why[0])
        return why[1]

    # All wishes were looked at in the rooms to which it goes back: what waited in the dead ones needs no look there.
    def turn_back(self, clause):
        self.trail.turn_back(clause)
        self.waiting.clear()
        self.wake(self.trail.steps[-1][0], None)

    # Only the lines on which the last one leans, straight or through others.
    def lines_needed(self):
        lines = list(self.paper)
        needed = {lines[-1]: True}
        for line in reversed(lines):
            if line in needed:
                for other in self.paper[line]:
                    needed[other] = True
        return tuple([line for line in lines if line in needed])

    # A cell with the fewest values, so that little is left where a choice was wrong; or None.
    def cell_to_choose(self):
        several = [cell for cell in self.first if len(self.trail.now[cell]) > 1]
        if len(several) == 0:
            return None
        return min(several, key=lambda cell: (len(self.trail.now[cell]), -len(self.standing[cell])))

    def filling(self):
        return dict([(cell, self.trail.now[cell][0]) for cell in self.first])

    def outcome(self):
        while True:
            dead = self.look()
            if dead is not None:
                clause = self.learn(dead)
                if clause == ():
                    return ("none", self.lines_needed())
                self.turn_back(clause)
            else:
                cell = self.cell_to_choose()
                if cell is None:
                    return ("fits", self.filling())
                self.trail.choose(cell, self.trail.now[cell][0])
                self.wake(cell, None)


def search_of(hall, rooms, group):
    case = case_of_group(hall, rooms, group)
    return Search(case[0], dict([(number, hall[1][number]) for number in case[1]]))


# The hall with these of its wishes alone; its paper tells them by the hall's numbers.
def sought_by(hall, numbers):
    rooms = first_rooms(hall)
    for number in numbers:
        if not may_be_kept(hall[1][number], rooms):
            return ("none", ((number, ()),))
    filling = dict([(cell, rooms[cell][0]) for cell in rooms])
    for group in groups_of(hall, (rooms, numbers)):
        found = search_of(hall, rooms, group).outcome()
        if found[0] == "none":
            return found
        filling.update(found[1])
    return ("fits", filling)


def seek(hall):
    return sought_by(hall, case_of(hall)[1])
