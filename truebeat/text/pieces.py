"""Pieces of texts: numbers in decimal digits."""

DIGITS = "0123456789"
LONGEST_NUMBER = 60


def are_digits(text):
    """Whether the text is decimal digits alone, of a number that can be passed."""
    return 1 <= len(text) <= LONGEST_NUMBER and all([sign in DIGITS for sign in text])


def number_in(text):
    """The number that is told in decimal digits without zeros ahead, `None` if the text is none.

    It has `-` ahead if it is below 0.
    """
    digits = text[1:] if text.startswith("-") else text
    if not are_digits(digits) or text != str(int(text)):
        return None
    return int(text)


def numbers_in(text, sign):
    """The numbers with a sign between them, `None` if one of them is none."""
    found = [number_in(piece) for piece in text.split(sign)]
    return None if None in found else tuple(found)
