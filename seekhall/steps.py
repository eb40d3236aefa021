"""The wish that the values of cells lead by steps from state 0 to an end."""

from seekhall.keeping import way_kept
from seekhall.wishes import Wish


class Way(Wish):
    def __init__(self, wish):
        Wish.__init__(self, wish)
        self.cells = wish[1]
        self.ends = wish[3]
        self.leads = {}
        for step in wish[2]:
            self.leads[step[:2]] = step[2]

    def kept(self, filling):
        return way_kept(self.wish, filling)

    # The states that come next; None stands among them where a step lacks, and no step leads away from it.
    def states_behind(self, states, room):
        behind = {}
        for state in states:
            for value in room:
                behind[self.leads.get((state, value))] = True
        return behind

    def last_states(self, rooms):
        states = {0: True}
        for cell in self.cells:
            states = self.states_behind(states, rooms[cell])
        return states

    def may_keep(self, rooms):
        return any([state in self.ends for state in self.last_states(rooms)])

    def may_break(self, rooms):
        return any([state not in self.ends for state in self.last_states(rooms)])
