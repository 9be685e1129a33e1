"""Texts read the slow way, sign by sign, straight from the document: what they write, or None."""

import re

FIGURES = "0|[1-9][0-9]*"


def number(text):
    return int(text) if re.fullmatch(FIGURES, text, re.ASCII) else None


def row_at(signs, text, start, hole):
    """The row that is written from there on, and where it ends; None where none is.

    `hole` tells of the text from there on what stands in the place of a tree and how long it is written.
    """
    told = hole(text[start:])
    if told is not None:
        return (told[0],), start + told[1]
    name = re.match("[a-z]*", text[start:]).group()
    names = [sign[0] for sign in signs]
    if name not in names:
        return None
    sign = names.index(name)
    row, end = (sign,), start + len(name)
    for kid in range(signs[sign][1]):
        if text[end:end + 1] != ("(" if kid == 0 else ","):
            return None
        found = row_at(signs, text, end + 1, hole)
        if found is None:
            return None
        row, end = row + found[0], found[1]
    if signs[sign][1] > 0:
        if text[end:end + 1] != ")":
            return None
        end += 1
    return row, end


def whole(signs, text, hole):
    found = row_at(signs, text, 0, hole)
    return found[0] if found is not None and found[1] == len(text) else None


def tree(signs, text):
    row = whole(signs, text, lambda rest: None)
    return row if row is not None and len(row) <= 40 else None


def pattern(signs, text):
    row = whole(signs, text, lambda rest: (-1, 1) if rest.startswith("_") else None)
    return row if row is not None and len(row) <= 6 else None


def made_row(goals, text, states, kids):
    def hole(rest):
        told = re.match(f"({FIGURES})[.]({FIGURES})", rest, re.ASCII)
        return ((int(told.group(1)), int(told.group(2))), len(told.group())) if told else None

    row = whole(goals, text, hole)
    if row is None or len(row) > 8:
        return None
    if any(isinstance(thing, tuple) and not (thing[0] < states and thing[1] < kids) for thing in row):
        return None
    return row


def turner(signs, goals, text):
    """The made rows of a turner."""
    states = text.split(" / ")
    rows = [state.split(" ; ") for state in states]
    if len(states) > 3 or any(len(made) != len(signs) for made in rows):
        return None
    told = [[made_row(goals, row, len(states), kids) for (_, kids), row in zip(signs, made)] for made in rows]
    return None if any(row is None for made in told for row in made) else told


def reader(signs, text):
    """A plain reader."""
    parts = text.split(" / ")
    if len(parts) != 3 or number(parts[0]) not in range(1, 7):
        return None
    moods = number(parts[0])
    liked = [] if parts[1] == "-" else [number(word) for word in parts[1].split(",")]
    tables = [[number(word) for word in table.split(" ")] for table in parts[2].split(" ; ")]
    if any(mood not in range(moods) for mood in liked) or liked != sorted(set(liked)):
        return None
    if [len(table) for table in tables] != [moods ** kids for _, kids in signs]:
        return None
    return None if any(mood not in range(moods) for table in tables for mood in table) else (moods, tables, liked)
