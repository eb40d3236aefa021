"""What cells can be: a filling with a value, or a paper that there is none."""

from seekhall.cases import case_of, groups_of
from seekhall.halls import first_rooms
from seekhall.seeker import seek, sought_by


def with_value_alone(hall, name, value):
    return (tuple([(cell[0], (value,)) if cell[0] == name else cell for cell in hall[0]]), hall[1])


def can_be(hall, cell, value):
    return seek(with_value_alone(hall, cell, value))


# The values that the group's cells have in fillings, as keys of dicts. Whatever a filling shows isn't asked again.
def seen_in(hall, group):
    rooms = first_rooms(hall)
    seen = dict([(name, {}) for name in group[0]])
    for name in group[0]:
        for value in rooms[name]:
            if value not in seen[name]:
                found = sought_by(with_value_alone(hall, name, value), group[1])
                if found[0] == "fits":
                    for other in group[0]:
                        seen[other][found[1][other]] = True
    return seen


def what_is_left(hall):
    rooms = first_rooms(hall)
    if seek(hall)[0] == "none":
        return dict([(name, ()) for name in rooms])
    left = dict(rooms)
    for group in groups_of(hall, case_of(hall)):
        # What no wish ties can be whatever it likes.
        if len(group[1]) > 0:
            seen = seen_in(hall, group)
            for name in group[0]:
                left[name] = tuple([value for value in rooms[name] if value in seen[name]])
    return left
