"""Turnings: cells led to cells and values to values; what is turned by them, and whether they lead a hall on."""

from seekhall.forms import is_name, is_number
from seekhall.halls import first_rooms


def leads_round(leads, is_one):
    keys = list(leads)
    led_to = list(leads.values())
    if not all([is_one(thing) for thing in keys + led_to]):
        return False
    return sorted(keys) == sorted(led_to)


def is_turning(thing):
    return leads_round(thing[0], is_name) and leads_round(thing[1], is_number)


def led(leads, thing):
    return leads.get(thing, thing)


def all_led(leads, things):
    return tuple([led(leads, thing) for thing in things])


def turned_filling(turning, filling):
    return dict([(led(turning[0], cell), led(turning[1], value)) for cell, value in filling.items()])


def turned_rooms(turning, rooms):
    return dict([(led(turning[0], cell), tuple(sorted(all_led(turning[1], room)))) for cell, room in rooms.items()])


def turned_unlike(turning, wish):
    return ("unlike", all_led(turning[0], wish[1]))


def turned_many(turning, wish):
    return ("many", all_led(turning[1], wish[1]), all_led(turning[0], wish[2]), wish[3], wish[4])


# Values led to others would be summed up to other sums.
def keeps_values(turning):
    return all([value == other for value, other in turning[1].items()])


def turned_sum(turning, wish):
    if not keeps_values(turning):
        return None
    return ("sum", tuple([(term[0], led(turning[0], term[1])) for term in wish[1]]), wish[2], wish[3])


def turned_table(turning, wish):
    return ("table", all_led(turning[0], wish[1]), tuple([all_led(turning[1], row) for row in wish[2]]))


def turned_way(turning, wish):
    steps = tuple([(step[0], led(turning[1], step[1]), step[2]) for step in wish[2]])
    return ("way", all_led(turning[0], wish[1]), steps, wish[3])


def turned_behind(turning, wish):
    if not keeps_values(turning):
        return None
    return ("behind", all_led(turning[0], wish[1]), wish[2])


def turned_same(turning, wish):
    inner = turned_wish(turning, wish[3])
    if inner is None:
        return None
    return ("same", led(turning[0], wish[1]), all_led(turning[1], wish[2]), inner)


TURNERS = {
    "unlike": turned_unlike,
    "many": turned_many,
    "sum": turned_sum,
    "table": turned_table,
    "way": turned_way,
    "behind": turned_behind,
    "same": turned_same,
}


def turned_wish(turning, wish):
    return TURNERS[wish[0]](turning, wish)


def in_order(things):
    return tuple(sorted(things))


def plain_table(wish):
    places = sorted(range(len(wish[1])), key=lambda place: wish[1][place])
    rows = [tuple([row[place] for place in places]) for row in wish[2]]
    return ("table", in_order(wish[1]), in_order(rows))


def plain_form(wish):
    if wish[0] == "unlike":
        return ("unlike", in_order(wish[1]))
    if wish[0] == "many":
        return ("many", in_order(wish[1]), in_order(wish[2]), wish[3], wish[4])
    if wish[0] == "sum":
        return ("sum", tuple(sorted(wish[1], key=lambda term: term[1])), wish[2], wish[3])
    if wish[0] == "table":
        return plain_table(wish)
    if wish[0] == "way":
        return ("way", wish[1], in_order(wish[2]), in_order(wish[3]))
    if wish[0] == "same":
        return ("same", wish[1], in_order(wish[2]), plain_form(wish[3]))
    return wish


# How often each plain form comes.
def plain_forms(wishes):
    told = {}
    for wish in wishes:
        plain = plain_form(wish)
        told[plain] = told.get(plain, 0) + 1
    return told


# Whether each wish has a turned one, none of their plain forms being there oftener than told. So where the wishes are
# as many as are told, their plain forms are just these, each as often.
def leads_wishes_among(turning, wishes, forms):
    found = {}
    for wish in wishes:
        turned = turned_wish(turning, wish)
        if turned is None:
            return False
        plain = plain_form(turned)
        found[plain] = found.get(plain, 0) + 1
        if found[plain] > forms.get(plain, 0):
            return False
    return True


def leads_rooms_on(turning, rooms):
    return all([name in rooms for name in turning[0]]) and turned_rooms(turning, rooms) == rooms


def leads_on(hall, turning):
    return leads_rooms_on(turning, first_rooms(hall)) and leads_wishes_among(turning, hall[1], plain_forms(hall[1]))
