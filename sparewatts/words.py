"""The words of which the lines of all texts are made."""

LETTERS = "abcdefghijklmnopqrstuvwxyz"
DIGITS = "0123456789"
LONGEST_NAME = 8


def consists_of(word, characters):
    """Return True if the word is not empty and has only these characters."""
    for character in word:
        if character not in characters:
            return False
    return word != ""


def is_name(word):
    """Return True if the word is the name of a job."""
    return len(word) <= LONGEST_NAME and consists_of(word, LETTERS)


def whole(word, most):
    """Return the integer that the word writes in at most so many digits, or None.

    It has no sign and no leading zeros.
    """
    # The length comes first: Python does not read numbers of thousands of digits.
    if len(word) > most or not consists_of(word, DIGITS):
        return None
    if word[0] == "0" and word != "0":
        return None
    return int(word)
