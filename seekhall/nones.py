"""Papers that show that a hall has no filling which keeps the wishes named in them."""

from seekhall.clauses import follows_from
from seekhall.errors import NoPaper
from seekhall.forms import is_whole
from seekhall.halls import first_rooms
from seekhall.units import Units


def has_value(rooms, literal):
    return literal[0] in rooms and literal[2] in rooms[literal[0]]


def follows_by_number(wishes, number, clause, rooms):
    return is_whole(number, 0, len(wishes) - 1) and follows_from(wishes[number], clause, rooms)


# The units have gone by the clauses of all lines ahead, from the hall's rooms on. Whatever they took away there they
# would take away from narrower rooms too: so it is the same whether these are narrowed by the clause then or first.
def is_right(line, wishes, rooms, units):
    if not all([has_value(rooms, literal) for literal in line[1]]):
        return False
    if line[0] is None:
        return units.would_die_of(line[1])
    return follows_by_number(wishes, line[0], line[1], rooms)


def check_none(hall, paper):
    rooms = first_rooms(hall)
    units = Units(rooms)
    for number, line in enumerate(paper):
        if not is_right(line, hall[1], rooms, units):
            raise NoPaper(number)
        units.go_by(line[1])
    if len(paper) == 0 or paper[-1][1] != ():
        raise NoPaper(len(paper))
    return True


def named_in(paper):
    return sorted(set([line[0] for line in paper if line[0] is not None]))
