"""A filling that is worth the most by terms, and a paper that none is worth more."""

from seekhall.cases import case_of, groups_of
from seekhall.halls import first_rooms
from seekhall.keeping import sum_of
from seekhall.seeker import seek, sought_by
from seekhall.sums import Sum


def worth_at_least(terms, low):
    return ("sum", terms, low, None)


def with_wish(hall, wish):
    return (hall[0], hall[1] + (wish,))


# The cells that hang together by the hall's last wish, and the wishes that tie them. It is not idle.
def group_of_last(hall):
    last = len(hall[1]) - 1
    for group in groups_of(hall, case_of(hall)):
        if last in group[1]:
            return group
    return ([], [last])


# What doesn't hang together with the terms stays as it was sought first. Of the sums that are left the middle one is
# asked for: so, fits or none, about half of them fall away each time.
def best_of(hall, terms):
    found = seek(hall)
    if found[0] == "none":
        return found
    filling = found[1]
    better = worth_at_least(terms, sum_of(terms, filling) + 1)
    group = group_of_last(with_wish(hall, better))
    above = sorted(Sum(better).sums_kept(first_rooms(hall)))
    while len(above) > 0:
        middle = above[len(above) // 2]
        found = sought_by(with_wish(hall, worth_at_least(terms, middle)), group[1])
        if found[0] == "fits":
            filling.update([(cell, found[1][cell]) for cell in group[0]])
            above = [worth for worth in above if worth > sum_of(terms, filling)]
        else:
            above = [worth for worth in above if worth < middle]
    greatest = sum_of(terms, filling)
    none_better = sought_by(with_wish(hall, worth_at_least(terms, greatest + 1)), group[1])
    return ("best", filling, greatest, none_better[1])
