"""A least set of wishes that can't be kept together."""

from seekhall.nones import named_in
from seekhall.seeker import seek, sought_by


# Each wish that the paper names is left out once. Where the others have a filling it stays, with this filling, in
# which the fewer that are left behind it are kept too; else the paper of these others is gone on with.
def lessened(hall):
    found = seek(hall)
    if found[0] == "fits":
        return found
    paper = found[1]
    ahead = named_in(paper)
    staying = []
    fillings = []
    while len(ahead) > 0:
        found = sought_by(hall, staying + ahead[1:])
        if found[0] == "fits":
            staying.append(ahead[0])
            fillings.append(found[1])
            ahead = ahead[1:]
        else:
            paper = found[1]
            ahead = [number for number in named_in(paper) if number not in staying]
    return ("least", tuple(staying), paper, fillings)
