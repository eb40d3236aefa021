"""What a wish takes away from the rooms now, or that it may not be kept in them; and clauses that say why."""

from seekhall.forms import cells_of
from seekhall.sorts import wish_of


def rooms_of(cells, rooms):
    return dict([(cell, rooms[cell]) for cell in cells])


def with_room(rooms, cell, room):
    changed = dict(rooms)
    changed[cell] = room
    return changed


def room_and(value, room, first_room):
    return tuple([one for one in first_room if one == value or one in room])


# What is put back makes rooms wider, and in wider rooms a wish may be kept the sooner: so what could not be put back
# once can't be later either, and one walk is enough.
def widened_at(asked, cell, first, rooms):
    whole = with_room(rooms, cell, first[cell])
    if not asked.may_keep(whole):
        return whole
    widest = rooms
    for value in first[cell]:
        if value not in rooms[cell]:
            wider = with_room(widest, cell, room_and(value, widest[cell], first[cell]))
            if not asked.may_keep(wider):
                widest = wider
    return widest


# Rooms in which the wish may not be kept, so wide that with any value more of these cells it may.
def widened(asked, cells, first, rooms):
    widest = rooms
    for cell in cells:
        if widest[cell] != first[cell]:
            widest = widened_at(asked, cell, first, widest)
    return widest


def missing(cell, first, rooms):
    return [(cell, "is", value) for value in first[cell] if value not in rooms[cell]]


def missing_of(cells, first, rooms):
    literals = []
    for cell in cells:
        literals.extend(missing(cell, first, rooms))
    return literals


def clause_against(asked, cell, value, first, rooms):
    others = [other for other in cells_of(asked.wish) if other != cell]
    widest = widened(asked, others, first, rooms)
    return tuple(sorted([(cell, "not", value)] + missing_of(others, first, widest)))


# Of a wish's object, so that one that is asked again and again isn't made anew.
def taken_by(asked, first, now):
    cells = cells_of(asked.wish)
    rooms = rooms_of(cells, now)
    told = []
    for cell in cells:
        for value in rooms[cell]:
            alone = with_room(rooms, cell, (value,))
            if not asked.may_keep(alone):
                told.append((cell, value, clause_against(asked, cell, value, first, alone)))
    return told


def dead_by(asked, first, now):
    cells = cells_of(asked.wish)
    rooms = rooms_of(cells, now)
    if asked.may_keep(rooms):
        return None
    return tuple(sorted(missing_of(cells, first, widened(asked, cells, first, rooms))))


def looked_at(wish, first, now):
    return taken_by(wish_of(wish), first, now)


def dead_clause(wish, first, now):
    return dead_by(wish_of(wish), first, now)
