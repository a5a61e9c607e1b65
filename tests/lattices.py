"""Another way to tell whether a vector is a sum of multiples of others: by greatest common divisors."""

from math import gcd

from walkagon.reach.reasons import JointCount


def minors(vectors):
    return [a[0] * b[1] - a[1] * b[0] for a in vectors for b in vectors]


def is_sum(vectors, target):
    """A target is such a sum exactly if it changes neither the rank nor the divisors of the highest minors."""
    longer = [*vectors, target]
    if any(minors(longer)):
        return any(minors(vectors)) and gcd(*minors(vectors)) == gcd(*minors(longer))
    return gcd(*[x for vector in vectors for x in vector]) == gcd(*[x for vector in longer for x in vector])


def summed(multiples, vectors):
    return (sum(count * vector[0] for count, vector in zip(multiples, vectors)),
            sum(count * vector[1] for count, vector in zip(multiples, vectors)))


def differences(sticks):
    return [(stick[0] - sticks[0][0], stick[1] - sticks[0][1]) for stick in sticks]


def move_between(start, goal):
    return (goal.points[0][0] - start.points[0][0], goal.points[0][1] - start.points[0][1])


def flips_lead(start, goal):
    """Point 6 of the document."""
    return (sorted(start.sticks) == sorted(goal.sticks)
            and is_sum(differences(start.sticks), move_between(start, goal)))


def known_reason(start, goal):
    """The reason that the document fixes: none, or that of the joints, or that of the sticks; else an empty string."""
    if flips_lead(start, goal):
        return None
    if len(start.points) != len(goal.points):
        return JointCount().told()
    both = start.sticks + goal.sticks
    differing = [stick for stick in both if start.sticks.count(stick) != goal.sticks.count(stick)]
    return f"unreachable: stick {min(differing)[0]},{min(differing)[1]}" if differing else ""
