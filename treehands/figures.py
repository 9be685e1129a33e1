"""Whole numbers as they are written."""

MOST_FIGURES = 30


def is_number(text):
    """Whether a text writes a number by at most 30 figures, none with a nought ahead but 0 itself."""
    if not 1 <= len(text) <= MOST_FIGURES:
        return False
    # Held against "0" and "9", for isdigit() also likes figures of other alphabets.
    return all(["0" <= figure <= "9" for figure in text]) and (text == "0" or text[0] != "0")


def read_number(text):
    """The number that a text writes, or None."""
    return int(text) if is_number(text) else None
