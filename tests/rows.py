"""Shifts and scripts by hand: places as plain tuples, after the words of the document."""

FAR_COUNT = 10 ** 18


def place_at(places, j):
    """h(j) for any integer j."""
    return places[j % len(places)] + j // len(places) * len(places)


def flipped_places(places, joint):
    """A flip exchanges what the places joint - 1 and joint hold, and those n further on, and so on."""
    sides = len(places)
    after = []
    for j in range(sides):
        if j % sides == joint:
            after.append(place_at(places, j - 1))
        elif j % sides == (joint - 1) % sides:
            after.append(place_at(places, j + 1))
        else:
            after.append(places[j])
    return tuple(after)


def played_places(sides, joints):
    places = tuple(range(sides))
    for joint in joints:
        places = flipped_places(places, joint)
    return places


def composed(first, second):
    return tuple(place_at(first, place) for place in second)


def powered(places, count):
    """Any power, by the number of repetitions after which all places are their old ones but for whole rounds."""
    sides = len(places)
    powers = [tuple(range(sides))]
    while True:
        following = composed(powers[-1], places)
        if all(place % sides == j for j, place in enumerate(following)):
            break
        powers.append(following)
    rounds = [(place - j) // sides for j, place in enumerate(following)]
    far = tuple(j + sides * turns * (count // len(powers)) for j, turns in enumerate(rounds))
    return composed(far, powers[count % len(powers)])


def passes_of(windings):
    """Point 9 of the document."""
    sides = len(windings)
    return sum(abs((windings[t] - windings[s]) // sides) for t in range(sides) for s in range(t))


def any_places(maker, sides, size):
    """The places of a shift, with windings up to about this size."""
    order = list(range(sides))
    maker.shuffle(order)
    turns = [maker.randint(-size, size) for _ in range(sides - 1)]
    turns.append(-sum(turns))
    return tuple(place + sides * turn for place, turn in zip(order, turns))


def any_joints(maker, sides, count):
    return tuple(maker.randrange(sides) for _ in range(count))


def going_round(sides, count):
    """So many joints that no fewer flips make the same shift: one round after another."""
    return tuple(index % sides for index in range(count))


# A script as a tree is a list of parts (opening, inside, repeats). The opening of a flip is an empty string, and
# its inside is a joint; the inside of a group is such a list. If repeats is None, no number stands in the script.


def any_tree(maker, sides, depth, counts, most=4):
    parts = []
    for _ in range(maker.randint(0, most)):
        repeats = maker.choice(counts)
        if depth == 0 or maker.random() < 0.5:
            parts.append(("", maker.randrange(sides), repeats))
        else:
            parts.append((maker.choice(("(", "~(")), any_tree(maker, sides, depth - 1, counts, most), repeats))
    return parts


def nested_tree(maker, sides, counts):
    """A group in a group, and so on, six deep, with flips around each."""
    parts = any_tree(maker, sides, 0, counts)
    for _ in range(6):
        group = (maker.choice(("(", "~(")), parts, maker.choice(counts))
        parts = any_tree(maker, sides, 0, (None,), 2) + [group] + any_tree(maker, sides, 0, (None,), 2)
    return parts


def text_of(tree):
    words = []
    for opening, inside, repeats in tree:
        ending = "" if repeats is None else f"*{repeats}"
        if opening:
            words += [opening] + ([text_of(inside)] if inside else []) + [")" + ending]
        else:
            words.append(str(inside) + ending)
    return " ".join(words)


def flips_of(tree):
    """All flips of a script, one by one."""
    flips = []
    for opening, inside, repeats in tree:
        part = flips_of(inside) if opening else [inside]
        flips += (part[::-1] if opening == "~(" else part) * (1 if repeats is None else repeats)
    return flips


def length_of(tree):
    return sum((length_of(inside) if opening else 1) * (1 if repeats is None else repeats)
               for opening, inside, repeats in tree)


def places_of(sides, tree):
    """The places of the shift of a script with any numbers of repetitions."""
    places = tuple(range(sides))
    for opening, inside, repeats in tree:
        part = places_of(sides, inside) if opening else played_places(sides, (inside,))
        count = 1 if repeats is None else repeats
        places = composed(places, powered(part, -count if opening == "~(" else count))
    return places


def moved_points(points, places):
    """Point 8 of the document: the points of a polygon after the shift with these places."""
    sides = len(points)
    old = [(after[0] - point[0], after[1] - point[1]) for point, after in zip(points, points[1:] + points[:1])]
    x, y = points[0]
    for place in places:
        x += place // sides * old[place % sides][0]
        y += place // sides * old[place % sides][1]
    found = []
    for place in places:
        found.append((x, y))
        x, y = x + old[place % sides][0], y + old[place % sides][1]
    return tuple(found)


def tree_of(script, sides):
    """The tree of a script; raises ValueError if the string is none for polygons with so many joints (point 11)."""
    parts = [[]]
    openings = []
    for token in script.split(" ") if script else []:
        if token in ("(", "~("):
            openings.append(token)
            parts.append([])
            if len(openings) > 6:
                raise ValueError(token)
            continue
        word, star, digits = token.partition("*")
        repeats = int(digits) if star else None
        if star and (digits != str(repeats) or not 0 <= repeats <= FAR_COUNT):
            raise ValueError(token)
        if word == ")":
            inside = parts.pop()
            parts[-1].append((openings.pop(), inside, repeats))
        elif word in [str(joint) for joint in range(sides)]:
            parts[-1].append(("", int(word), repeats))
        else:
            raise ValueError(token)
    if openings:
        raise ValueError(openings)
    return parts[0]
