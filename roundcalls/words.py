"""The words of texts."""


def read_number(word, most):
    """Return the integer from 0 to a greatest one that a word writes without leading zeros, or None."""
    # Too long words are not read as numbers at all: Python refuses very long ones.
    if not word.isascii() or not word.isdigit() or len(word) > len(str(most)):
        return None
    number = int(word)
    if str(number) != word or number > most:
        return None
    return number
