"""Going by units from rooms with clauses."""

from seekhall.clauses import room_against


def is_untrue(literal, rooms):
    room = rooms[literal[0]]
    return literal[2] not in room if literal[1] == "is" else room == (literal[2],)


def opposite_of(literal):
    return (literal[0], "not" if literal[1] == "is" else "is", literal[2])


# The literals of a cell that are untrue in the room now and weren't in the room before: none where it stayed.
def newly_untrue(cell, before, now):
    literals = [(cell, "is", value) for value in before if value not in now]
    if len(now) == 1 and len(before) > 1:
        literals.append((cell, "not", now[0]))
    return literals


# Changes the rooms, in which the literal isn't untrue, and tells which literals became untrue.
def make_true(literal, rooms):
    cell = literal[0]
    before = rooms[cell]
    rooms[cell] = room_against(opposite_of(literal), before)
    return newly_untrue(cell, before, rooms[cell])


class Watch:
    def __init__(self, clause, one, other):
        self.clause = clause
        self.one = one
        self.other = other

    def beside(self, literal):
        return self.other if literal == self.one else self.one

    # A literal that can be watched in the place of one that became untrue, or None.
    def instead_of(self, literal, rooms):
        partner = self.beside(literal)
        for another in self.clause:
            if another != partner and not is_untrue(another, rooms):
                return another
        return None

    def put_instead_of(self, literal, another):
        if literal == self.one:
            self.one = another
        else:
            self.other = another


# Of each clause two literals that are not untrue are watched: as long as they stay so, it narrows nothing and isn't
# looked at. Watches that were moved in narrower rooms are right in these rooms too: what isn't untrue there isn't here.
class Units:
    def __init__(self, rooms):
        self.rooms = dict(rooms)
        self.watches = {}
        self.dead = False

    def set_watch(self, literal, watch):
        self.watches.setdefault(literal, []).append(watch)

    def go_by(self, clause):
        if self.dead:
            return
        left = [literal for literal in clause if not is_untrue(literal, self.rooms)]
        if len(left) > 1:
            watch = Watch(clause, left[0], left[1])
            self.set_watch(left[0], watch)
            self.set_watch(left[1], watch)
        else:
            # What is made true stays so: such a clause needs no watch.
            self.dead = len(left) == 0 or not self.lives_with(left, self.rooms)

    # Whether these rooms, narrowed by the clause, become dead; they themselves stay.
    def would_die_of(self, clause):
        return self.dead or not self.lives_with([opposite_of(literal) for literal in clause], dict(self.rooms))

    # Makes the literals true in the rooms it is handed, and whatever comes of it.
    def lives_with(self, literals, rooms):
        ahead = list(literals)
        while len(ahead) > 0:
            literal = ahead.pop()
            if is_untrue(literal, rooms):
                return False
            for lost in make_true(literal, rooms):
                ahead.extend(self.last_ones(lost, rooms))
        return True

    # Of the clauses that watched the untrue literal and have no other one to watch: the literal that is left, if any.
    def last_ones(self, literal, rooms):
        staying = []
        lasts = []
        for watch in self.watches.pop(literal, []):
            another = watch.instead_of(literal, rooms)
            if another is None:
                staying.append(watch)
                lasts.append(watch.beside(literal))
            else:
                watch.put_instead_of(literal, another)
                self.set_watch(another, watch)
        self.watches[literal] = staying
        return lasts


def by_units(rooms, clauses):
    units = Units(rooms)
    for clause in clauses:
        units.go_by(clause)
    return None if units.dead else units.rooms
