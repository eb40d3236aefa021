"""Cases: some cells of a hall with parts of their rooms, and some of its wishes; and how a case falls asunder."""

from seekhall.forms import cells_of, is_number, is_whole
from seekhall.halls import first_rooms, is_rising
from seekhall.sorts import may_be_broken


def is_part_of(room, whole):
    if not isinstance(room, tuple) or len(room) == 0:
        return False
    return all([is_number(value) and value in whole for value in room]) and is_rising(room)


def are_parts_of(rooms, whole):
    return all([cell in whole and is_part_of(rooms[cell], whole[cell]) for cell in rooms])


def are_numbers(numbers, wishes):
    return all([is_whole(number, 0, len(wishes) - 1) for number in numbers]) and is_rising(numbers)


def has_cells_of(wish, rooms):
    return all([cell in rooms for cell in cells_of(wish)])


def is_case(hall, case):
    if not are_parts_of(case[0], first_rooms(hall)) or not are_numbers(case[1], hall[1]):
        return False
    return all([has_cells_of(hall[1][number], case[0]) for number in case[1]])


def case_of(hall):
    return (first_rooms(hall), tuple(range(len(hall[1]))))


def names_of(hall, rooms):
    return [cell[0] for cell in hall[0] if cell[0] in rooms]


def hall_of(hall, case):
    cells = tuple([(name, case[0][name]) for name in names_of(hall, case[0])])
    return (cells, tuple([hall[1][number] for number in case[1]]))


def is_idle(wish, rooms):
    return not may_be_broken(wish, rooms)


# For each cell the place of the first one with which it hangs together.
def heads_of(names, ties):
    heads = dict([(name, place) for place, name in enumerate(names)])
    for tie in ties:
        tied = [heads[name] for name in tie]
        for name in names:
            if heads[name] in tied:
                heads[name] = min(tied)
    return heads


# The groups with the wishes that tie them, tuples (names, numbers). A wish whose cells have one value each ties none.
def groups_of(hall, case):
    rooms = case[0]
    names = [name for name in names_of(hall, rooms) if len(rooms[name]) > 1]
    ties = {}
    for number in case[1]:
        tied = [name for name in cells_of(hall[1][number]) if len(rooms[name]) > 1]
        if len(tied) > 0 and not is_idle(hall[1][number], rooms):
            ties[number] = tied
    heads = heads_of(names, list(ties.values()))
    groups = []
    for head in sorted(set([heads[name] for name in names])):
        inside = [name for name in names if heads[name] == head]
        groups.append((inside, [number for number in ties if ties[number][0] in inside]))
    return groups


# The case of a group alone: its cells, and those with one value that its wishes have besides.
def case_of_group(hall, rooms, group):
    cells = dict([(cell, True) for cell in group[0]])
    for number in group[1]:
        cells.update([(cell, True) for cell in cells_of(hall[1][number])])
    return (dict([(cell, rooms[cell]) for cell in rooms if cell in cells]), tuple(group[1]))


def asunder(hall, case):
    return [group[0] for group in groups_of(hall, case)]
