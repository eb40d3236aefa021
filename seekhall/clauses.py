"""Clauses: whether one holds, the rooms in which it doesn't, and whether it follows from a wish."""

from seekhall.sorts import may_be_kept


def literal_holds(literal, filling):
    has_value = filling[literal[0]] == literal[2]
    return has_value if literal[1] == "is" else not has_value


def clause_holds(clause, filling):
    return any([literal_holds(literal, filling) for literal in clause])


# The values of the literal's cell with which it doesn't hold.
def room_against(literal, room):
    if literal[1] == "is":
        return tuple([value for value in room if value != literal[2]])
    return tuple([value for value in room if value == literal[2]])


def narrowed_by(rooms, clause):
    narrowed = dict(rooms)
    for literal in clause:
        cell = literal[0]
        narrowed[cell] = room_against(literal, narrowed[cell])
        if len(narrowed[cell]) == 0:
            return None
    return narrowed


def follows_from(wish, clause, rooms):
    narrowed = narrowed_by(rooms, clause)
    return narrowed is None or not may_be_kept(wish, narrowed)
