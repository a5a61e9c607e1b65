"""Points and integers in their written form."""

from walkagon.errors import BadText


def is_count(word):
    """Whether the word is an integer from 0 in decimal digits, without a leading zero."""
    return word == "0" or (word.isdigit() and word[0] != "0")


def is_number(word):
    """Whether the word is an integer: a count, or a minus sign and a count other than 0."""
    return is_count(word) or (word.startswith("-") and word != "-0" and is_count(word[1:]))


def read_points(text):
    """The list of the points in the text; raises BadText with the number of the first wrong part."""
    points = []
    for index, part in enumerate(text.split(" ")):
        words = part.split(",")
        if len(words) != 2 or not is_number(words[0]) or not is_number(words[1]):
            raise BadText(index)
        points.append((int(words[0]), int(words[1])))
    return points
