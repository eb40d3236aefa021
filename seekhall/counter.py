"""Counting the fillings that keep all wishes, with a paper that shows their number."""

from seekhall.cases import case_of, case_of_group, groups_of
from seekhall.forms import cells_of
from seekhall.lookers import rooms_of, with_room
from seekhall.numbers import fillings_in, product
from seekhall.sorts import may_be_kept


# The cases into which a case falls asunder: one for each group that wishes tie, and one of all cells beside them.
def cases_apart(hall, case):
    found = [case_of_group(hall, case[0], group) for group in groups_of(hall, case) if len(group[1]) > 0]
    beside = [cell for cell in case[0] if not any([cell in other[0] for other in found])]
    if len(beside) > 0:
        found.append((rooms_of(beside, case[0]), ()))
    return found


class Counting:
    def __init__(self, hall):
        self.hall = hall
        self.lines = []
        self.told = []
        # The lines of cases that were counted already: they are leant on again.
        self.known = {}

    def put(self, case, how, number):
        self.lines.append((case, how))
        self.told.append(number)
        return len(self.lines) - 1

    # The line of a wish that may not be kept by itself, or None.
    def put_where_none(self, case):
        for place, number in enumerate(case[1]):
            if not may_be_kept(self.hall[1][number], case[0]):
                return self.put(case, ("none", ((place, ()),)), 0)
        return None

    def put_by_parts(self, case):
        cell = self.cell_to_part(case)
        lines = [self.line_of((with_room(case[0], cell, (value,)), case[1])) for value in case[0][cell]]
        return self.put(case, ("parts", cell, tuple(lines)), sum([self.told[line] for line in lines]))

    # The one that stands in the most wishes: behind it the most falls asunder.
    def cell_to_part(self, case):
        times = dict([(cell, 0) for cell in case[0] if len(case[0][cell]) > 1])
        for number in case[1]:
            for cell in cells_of(self.hall[1][number]):
                if cell in times:
                    times[cell] += 1
        return max(list(times), key=lambda cell: times[cell])

    def put_apart(self, case, others):
        lines = [self.line_of(other) for other in others]
        return self.put(case, ("apart", tuple(lines)), product([self.told[line] for line in lines]))

    def put_new(self, case):
        line = self.put_where_none(case)
        if line is not None:
            return line
        others = cases_apart(self.hall, case)
        if not any([len(other[1]) > 0 for other in others]):
            return self.put(case, ("all",), fillings_in(case[0]))
        if others == [case]:
            return self.put_by_parts(case)
        return self.put_apart(case, others)

    def line_of(self, case):
        known = (tuple(case[0].items()), case[1])
        if known not in self.known:
            self.known[known] = self.put_new(case)
        return self.known[known]


def counted(hall):
    counting = Counting(hall)
    last = counting.line_of(case_of(hall))
    return (counting.told[last], tuple(counting.lines))
