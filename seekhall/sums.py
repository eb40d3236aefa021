"""The wish that a sum of cells lies within bounds."""

from seekhall.keeping import is_between, sum_kept
from seekhall.wishes import Wish


def parts_of(term, rooms):
    return [term[0] * value for value in rooms[term[1]]]


# The least and the greatest sum of all terms, of all but the first, and so on; last those of no terms.
def spans_of(terms, rooms):
    spans = [(0, 0)]
    for term in reversed(terms):
        parts = parts_of(term, rooms)
        spans.append((spans[-1][0] + min(parts), spans[-1][1] + max(parts)))
    return list(reversed(spans))


class Sum(Wish):
    def __init__(self, wish):
        Wish.__init__(self, wish)
        self.terms = wish[1]
        self.low = wish[2]
        self.high = wish[3]

    def kept(self, filling):
        return sum_kept(self.wish, filling)

    def may_end_well(self, reached, behind):
        may_rise_to_low = self.low is None or self.low <= reached + behind[1]
        may_fall_to_high = self.high is None or reached + behind[0] <= self.high
        return may_rise_to_low and may_fall_to_high

    # Fillings that come to one sum go on as one; those that can't come within the bounds any more go no further.
    def sums_with(self, reached, parts, behind):
        further = {}
        for part in parts:
            for earlier in reached:
                if self.may_end_well(earlier + part, behind):
                    further[earlier + part] = True
        return further

    # All sums within the bounds to which fillings of the rooms come, as keys.
    def sums_kept(self, rooms):
        spans = spans_of(self.terms, rooms)
        reached = {0: True}
        for number, term in enumerate(self.terms):
            reached = self.sums_with(reached, parts_of(term, rooms), spans[number + 1])
        return reached

    def may_keep(self, rooms):
        return len(self.sums_kept(rooms)) > 0

    # Where the least and the greatest sum lie within the bounds, all sums between them do too.
    def may_break(self, rooms):
        span = spans_of(self.terms, rooms)[0]
        return not is_between(span[0], self.low, self.high) or not is_between(span[1], self.low, self.high)
