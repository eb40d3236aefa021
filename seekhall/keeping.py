"""Whether a wish is kept in a filling, of whatever values."""

from seekhall.forms import are_unlike


def is_between(number, low, high):
    return (low is None or low <= number) and (high is None or number <= high)


def sum_of(terms, filling):
    return sum([term[0] * filling[term[1]] for term in terms])


def values_at(cells, filling):
    return tuple([filling[cell] for cell in cells])


def unlike_kept(wish, filling):
    return are_unlike(values_at(wish[1], filling))


def many_kept(wish, filling):
    hits = [cell for cell in wish[2] if filling[cell] in wish[1]]
    return is_between(len(hits), wish[3], wish[4])


def sum_kept(wish, filling):
    return is_between(sum_of(wish[1], filling), wish[2], wish[3])


def table_kept(wish, filling):
    return values_at(wish[1], filling) in wish[2]


def way_kept(wish, filling):
    leads = {}
    for step in wish[2]:
        leads[step[:2]] = step[2]
    state = 0
    for value in values_at(wish[1], filling):
        if (state, value) not in leads:
            return False
        state = leads[(state, value)]
    return state in wish[3]


def behind_kept(wish, filling):
    found = values_at(wish[1], filling)
    return all([ahead + wish[2] <= later for ahead, later in zip(found, found[1:])])


def same_kept(wish, filling):
    return (filling[wish[1]] in wish[2]) == wish_kept(wish[3], filling)


KEEPERS = {
    "unlike": unlike_kept,
    "many": many_kept,
    "sum": sum_kept,
    "table": table_kept,
    "way": way_kept,
    "behind": behind_kept,
    "same": same_kept,
}


def wish_kept(wish, filling):
    return KEEPERS[wish[0]](wish, filling)
