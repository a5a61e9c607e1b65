"""Scripts that lead from one polygon to another one."""

from walkagon.reach.lattice import combination
from walkagon.reach.reasons import check_reachable
from walkagon.shapes.vectors import differences, minus
from walkagon.shifts.shift import Shift
from walkagon.shifts.tokens import CLOSING, FORWARD, MOST_REPEATS


def ordering(sticks, wanted):
    """The shift that brings the sticks into the wanted order without a move of joint 0."""
    places = []
    for stick in wanted:
        places.append(min([place for place, other in enumerate(sticks) if other == stick and place not in places]))
    return Shift(*places)


def loop(sides, index):
    """The joints whose flips only move the polygon, by the stick with this index without the stick 0."""
    places = list(range(sides))
    places[0] -= sides
    places[index] += sides
    return Shift(*places).first_joints()


def written(joints):
    """The list of the tokens of these flips."""
    return [str(joint) for joint in joints]


def repeated(words, count):
    """The list of the tokens that play these ones so often."""
    return words if count == 1 else [FORWARD] + words + [f"{CLOSING}*{count}"]


def moving(loops, counts):
    """The list of the tokens that play each loop as often as its count says."""
    if not any(counts):
        return []
    # One number is not enough for large counts: what is played more often than the most is grouped once more.
    words = moving(loops, [count // MOST_REPEATS for count in counts])
    if words:
        words = repeated(words, MOST_REPEATS)
    for joints, count in zip(loops, counts):
        rest = count % MOST_REPEATS
        if rest > 0:
            words = words + repeated(written(joints), rest)
    return words


def find_script(start, goal):
    """A script that leads from start to goal; it is empty if they are equal."""
    check_reachable(start, goal)
    sides = len(start)
    sticks = goal.sticks
    words = written(ordering(start.sticks, sticks).first_joints())
    multiples = combination(differences(sticks), minus(goal.points[0], start.points[0]))
    loops = []
    for index, count in enumerate(multiples):
        joints = loop(sides, index + 1)
        # Flips from the last to the first undo what the flips do.
        loops.append(joints[::-1] if count < 0 else joints)
    return " ".join(words + moving(loops, [abs(count) for count in multiples]))
