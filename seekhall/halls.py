"""Halls: whether one is sound, its rooms, and whether a filling keeps all of it."""

from seekhall.errors import NoHall
from seekhall.forms import cells_of, is_name, is_tuple_of, is_value, is_wish
from seekhall.keeping import wish_kept

MOST_IN_ROOM = 10


def is_rising(numbers):
    return all([earlier < later for earlier, later in zip(numbers, numbers[1:])])


def is_room(thing):
    return is_tuple_of(thing, is_value, 1, MOST_IN_ROOM) and is_rising(thing)


def is_cell(thing):
    return isinstance(thing, tuple) and len(thing) == 2 and is_name(thing[0]) and is_room(thing[1])


def check_cells(cells):
    names = {}
    for number, cell in enumerate(cells):
        if not is_cell(cell) or cell[0] in names:
            raise NoHall("cell", number)
        names[cell[0]] = True


def check_wishes(wishes, rooms):
    for number, wish in enumerate(wishes):
        if not is_wish(wish) or not all([name in rooms for name in cells_of(wish)]):
            raise NoHall("wish", number)


def check_hall(hall):
    check_cells(hall[0])
    check_wishes(hall[1], first_rooms(hall))


def first_rooms(hall):
    rooms = {}
    for cell in hall[0]:
        rooms[cell[0]] = cell[1]
    return rooms


def all_kept(hall, filling):
    if not all([filling[cell[0]] in cell[1] for cell in hall[0]]):
        return False
    return all([wish_kept(wish, filling) for wish in hall[1]])
