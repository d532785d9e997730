"""The texts of plans."""

from math import gcd

from sparewatts.errors import BadText
from sparewatts.ratios import ZERO, less
from sparewatts.words import is_name, whole

MOST_DIGITS = 200


def write_ratio(number):
    """Return the word of a ratio."""
    top, bottom = number
    return f"{top}" if bottom == 1 else f"{top}/{bottom}"


def write_plan(plan):
    """Return the text of a plan."""
    lines = []
    for start, end, name, speed in plan:
        lines.append(f"{write_ratio(start)} {write_ratio(end)} {name} {write_ratio(speed)}\n")
    return "".join(lines)


def read_unsigned(word):
    """Return the ratio that the word writes without a sign and in lowest terms, or None."""
    words = word.split("/")
    numbers = [whole(part, MOST_DIGITS) for part in words]
    if None in numbers or len(numbers) > 2:
        return None
    if len(numbers) == 1:
        return (numbers[0], 1)
    top, bottom = numbers
    if bottom < 2 or gcd(top, bottom) != 1:
        return None
    return (top, bottom)


def read_ratio(word):
    """Return the ratio that the word writes in lowest terms, or None."""
    if not word.startswith("-"):
        return read_unsigned(word)
    number = read_unsigned(word[1:])
    if number is None or number == ZERO:
        return None
    return (-number[0], number[1])


def read_piece(line):
    """Return the piece whose line it is, or None."""
    words = line.split(" ")
    if len(words) != 4 or not is_name(words[2]):
        return None
    start = read_ratio(words[0])
    end = read_ratio(words[1])
    speed = read_ratio(words[3])
    if start is None or end is None or speed is None:
        return None
    if not less(start, end) or not less(ZERO, speed):
        return None
    return (start, end, words[2], speed)


def read_plan(text):
    """Return the plan whose text it is, or raise BadText."""
    lines = text.split("\n")
    ended = lines[-1] == ""
    if ended:
        # Nothing stands behind the last newline, so no line begins there.
        lines = lines[:-1]
    pieces = []
    for index, line in enumerate(lines):
        piece = read_piece(line)
        if piece is None or (pieces != [] and less(piece[0], pieces[-1][1])):
            raise BadText(index + 1)
        pieces.append(piece)
    if not ended:
        raise BadText(len(lines))
    return tuple(pieces)
