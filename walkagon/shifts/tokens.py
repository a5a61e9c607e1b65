"""The tokens of scripts."""

from walkagon.errors import BadScript
from walkagon.shapes.texts import is_count

FORWARD = "("
BACKWARD = "~("
CLOSING = ")"
JOINTS = ("0", "1", "2", "3", "4", "5", "6", "7")
MOST_REPEATS = 10 ** 18
MOST_DIGITS = 19
DEEPEST = 6


def read_repeats(digits):
    """The number of repetitions; None if the digits are not such a number."""
    # The length is tested first, because a very long number should not be computed.
    if not is_count(digits) or len(digits) > MOST_DIGITS or int(digits) > MOST_REPEATS:
        return None
    return int(digits)


def read_token(token):
    """The word of the token and how often it is repeated; None if it is no token of a script."""
    if token in (FORWARD, BACKWARD):
        return token, 1
    word, star, digits = token.partition("*")
    if word != CLOSING and word not in JOINTS:
        return None
    repeats = read_repeats(digits) if star else 1
    return None if repeats is None else (word, repeats)


def depth_after(depth, word):
    """How many groups are open behind the word."""
    if word in (FORWARD, BACKWARD):
        return depth + 1
    return depth - 1 if word == CLOSING else depth


def read_script(script):
    """The list of the words of the script with their repetitions.

    Raises BadScript with the number of the first wrong token, or with the number of tokens.
    """
    tokens = script.split(" ") if script else []
    words = []
    depth = 0
    for index, token in enumerate(tokens):
        found = read_token(token)
        if found is None:
            raise BadScript(index)
        depth = depth_after(depth, found[0])
        if depth < 0 or depth > DEEPEST:
            raise BadScript(index)
        words.append(found)
    if depth > 0:
        raise BadScript(len(tokens))
    return words
