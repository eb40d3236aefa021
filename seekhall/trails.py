"""The trail of a search: what was chosen, what was taken away from rooms and by which lines, and the way back."""


# A step is a tuple (cell, value, line): the value was taken away by this line of a paper, or, by None, by a choice.
# The line's clause has the literal (cell, not, value); told are its others, which were untrue already.
def literals_behind(step):
    if step[2] is None:
        return []
    return [literal for literal in step[2][1] if literal != (step[0], "not", step[1])]


class Trail:
    def __init__(self, first):
        self.first = dict(first)
        self.now = dict(first)
        self.steps = []
        self.places = {}
        # Tuples (cell, value, place): from this place on the steps hang on the choice.
        self.choices = []

    def rooms_now(self):
        return dict(self.now)

    def level(self):
        return len(self.choices)

    # Of a cell with more than one value left.
    def choose(self, cell, value):
        self.choices.append((cell, value, len(self.steps)))
        for other in [one for one in self.now[cell] if one != value]:
            self.take_away(cell, other, None)

    def take_away(self, cell, value, line):
        self.places[(cell, value)] = len(self.steps)
        self.steps.append((cell, value, line))
        self.now[cell] = tuple([one for one in self.now[cell] if one != value])

    def give_back(self):
        step = self.steps.pop()
        cell = step[0]
        self.places.pop((cell, step[1]))
        self.now[cell] = tuple([one for one in self.first[cell] if (cell, one) not in self.places])

    def go_back(self, level):
        while len(self.choices) > level:
            choice = self.choices.pop()
            while len(self.steps) > choice[2]:
                self.give_back()

    # The places of the steps by which an untrue literal became so.
    def places_behind(self, literal):
        cell = literal[0]
        if literal[1] == "is":
            return [self.places[(cell, literal[2])]]
        places = [self.places[(cell, value)] for value in self.first[cell] if value != literal[2]]
        # Of a chosen value the choice alone is enough, whatever else was taken away ahead of it.
        chosen = [place for place in places if self.steps[place][2] is None]
        return chosen if len(chosen) > 0 else places

    def mark_behind(self, literals, marked):
        for literal in literals:
            for place in self.places_behind(literal):
                marked[place] = True

    # The steps that made the literals untrue, and those that led to these, from the latest to the first.
    def steps_behind(self, literals):
        marked = {}
        self.mark_behind(literals, marked)
        found = []
        for place in range(len(self.steps) - 1, -1, -1):
            if place in marked:
                found.append(self.steps[place])
                self.mark_behind(literals_behind(self.steps[place]), marked)
        return found

    # Of a line all of whose literals are untrue: the lines that led to it, in their order, itself the last; and the
    # clause that the choices on which it hangs don't stand together. By these lines it dies by units.
    def why_dead(self, line):
        steps = list(reversed(self.steps_behind(line[1])))
        lines = [step[2] for step in steps if step[2] is not None]
        # A chosen cell has its chosen value alone.
        chosen = [(step[0], "not", self.now[step[0]][0]) for step in steps if step[2] is None]
        return (lines + [line], tuple(sorted(set(chosen))))

    # Goes back as far as all but the last of the clause's choices stand, and takes away what was chosen last.
    def turn_back(self, clause):
        numbers = [number for number, choice in enumerate(self.choices) if (choice[0], "not", choice[1]) in clause]
        last = self.choices[numbers[-1]]
        self.go_back(numbers[-2] + 1 if len(numbers) > 1 else 0)
        self.take_away(last[0], last[1], (None, clause))
