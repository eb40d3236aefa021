"""Pairs of cells, and of values, that can be exchanged without changing a hall."""

from seekhall.forms import cells_of
from seekhall.halls import first_rooms
from seekhall.turnings import leads_wishes_among, plain_forms


def exchange(one, other):
    return {one: other, other: one}


# A wish in which neither stands is turned to itself: so only those in which one does are looked at.
def touched_by(pair, wishes, names_in):
    return [wish for place, wish in enumerate(wishes) if pair[0] in names_in[place] or pair[1] in names_in[place]]


def pairs_of(things):
    pairs = []
    for place, one in enumerate(things):
        pairs.extend([(one, other) for other in things[place + 1:]])
    return pairs


def cell_swaps(hall):
    rooms = first_rooms(hall)
    forms = plain_forms(hall[1])
    cells = [cells_of(wish) for wish in hall[1]]
    found = []
    for pair in pairs_of(list(rooms)):
        if rooms[pair[0]] == rooms[pair[1]]:
            turning = (exchange(pair[0], pair[1]), {})
            if leads_wishes_among(turning, touched_by(pair, hall[1], cells), forms):
                found.append(pair)
    return found


def values_in(wish):
    if wish[0] == "many":
        return list(wish[1])
    if wish[0] == "way":
        return [step[1] for step in wish[2]]
    if wish[0] == "same":
        return list(wish[2]) + values_in(wish[3])
    values = []
    if wish[0] == "table":
        for row in wish[2]:
            values.extend(row)
    return values


# Sums and behinds have no turned wish where a value is led to another one.
def hangs_on_size(wish):
    inner = wish[3] if wish[0] == "same" else wish
    return inner[0] == "sum" or inner[0] == "behind"


# Of each value the places of the cells that can have it: rooms stay where both values stand in the same ones.
def places_of_values(hall):
    places = {}
    for place, cell in enumerate(hall[0]):
        for value in cell[1]:
            places.setdefault(value, []).append(place)
    return places


def value_swaps(hall):
    if any([hangs_on_size(wish) for wish in hall[1]]):
        return []
    places = places_of_values(hall)
    forms = plain_forms(hall[1])
    values = [dict([(value, True) for value in values_in(wish)]) for wish in hall[1]]
    found = []
    for pair in pairs_of(sorted(places)):
        if places[pair[0]] == places[pair[1]]:
            turning = ({}, exchange(pair[0], pair[1]))
            if leads_wishes_among(turning, touched_by(pair, hall[1], values), forms):
                found.append(pair)
    return found
