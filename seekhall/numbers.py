"""Papers that show how many fillings of a hall keep all its wishes."""

from seekhall.cases import case_of, hall_of, is_case, is_idle
from seekhall.errors import NoPaper
from seekhall.forms import is_whole
from seekhall.nones import check_none
from seekhall.turnings import is_turning, leads_wishes_among, plain_forms, turned_rooms


def product(numbers):
    result = 1
    for number in numbers:
        result *= number
    return result


def fillings_in(rooms):
    return product([len(room) for room in rooms.values()])


def wishes_of(hall, case):
    return [hall[1][number] for number in case[1]]


def are_idle(hall, numbers, rooms):
    return all([is_idle(hall[1][number], rooms) for number in numbers])


def is_none(hall, case, paper):
    try:
        return check_none(hall_of(hall, case), paper)
    except NoPaper:
        return False


def is_like_but_for(case, cell, other):
    if other[1] != case[1] or len(other[0]) != len(case[0]):
        return False
    return all([name in other[0] and (name == cell or other[0][name] == room) for name, room in case[0].items()])


# A room is rising, so its values once each, in order, are it; none is empty, so there is one part at least.
def are_parts(case, cell, parts):
    if cell not in case[0] or not all([is_like_but_for(case, cell, part) for part in parts]):
        return False
    values = []
    for part in parts:
        values.extend(part[0][cell])
    return tuple(sorted(values)) == case[0][cell]


# How many of the cases have each cell.
def times_told(cases):
    times = {}
    for case in cases:
        for cell in case[0]:
            times[cell] = times.get(cell, 0) + 1
    return times


def rooms_stand_apart(rooms, others):
    for other in others:
        if not all([cell in rooms and room == rooms[cell] for cell, room in other[0].items()]):
            return False
    times = times_told(others)
    return all([times.get(cell, 0) == 1 or (cell in times and len(room) == 1) for cell, room in rooms.items()])


def stand_apart(hall, case, others):
    if not rooms_stand_apart(case[0], others):
        return False
    numbers = []
    for other in others:
        numbers.extend(other[1])
    if len(set(numbers)) < len(numbers) or not all([number in case[1] for number in numbers]):
        return False
    return are_idle(hall, [number for number in case[1] if number not in numbers], case[0])


def is_turned(hall, case, other, turning):
    if not is_turning(turning) or turned_rooms(turning, other[0]) != case[0] or len(other[1]) != len(case[1]):
        return False
    return leads_wishes_among(turning, wishes_of(hall, other), plain_forms(wishes_of(hall, case)))


# Goes through a paper line by line and keeps the number of each line that is right.
class Lines:
    def __init__(self, hall):
        self.hall = hall
        self.cases = []
        self.told = []

    def are_ahead(self, lines):
        return all([is_whole(line, 0, len(self.told) - 1) for line in lines])

    def cases_at(self, lines):
        return [self.cases[line] for line in lines]

    def numbers_at(self, lines):
        return [self.told[line] for line in lines]

    # The line's number, or None where it isn't right.
    def number_by(self, case, how):
        if how[0] == "none":
            return 0 if is_none(self.hall, case, how[1]) else None
        if how[0] == "all":
            return fillings_in(case[0]) if are_idle(self.hall, case[1], case[0]) else None
        if how[0] == "parts" and self.are_ahead(how[2]) and are_parts(case, how[1], self.cases_at(how[2])):
            return sum(self.numbers_at(how[2]))
        if how[0] == "apart" and self.are_ahead(how[1]) and stand_apart(self.hall, case, self.cases_at(how[1])):
            return product(self.numbers_at(how[1]))
        if how[0] == "turned" and self.are_ahead([how[1]]) and is_turned(self.hall, case, self.cases[how[1]], how[2]):
            return self.told[how[1]]
        return None

    def go_by(self, line):
        number = self.number_by(line[0], line[1]) if is_case(self.hall, line[0]) else None
        if number is None:
            raise NoPaper(len(self.told))
        self.cases.append(line[0])
        self.told.append(number)


def check_count(hall, paper):
    lines = Lines(hall)
    for line in paper:
        lines.go_by(line)
    if len(paper) == 0 or paper[-1][0] != case_of(hall):
        raise NoPaper(len(paper))
    return lines.told[-1]
