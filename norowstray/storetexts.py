"""Stores and the steps of derivations as texts."""

from norowstray.errors import BadText
from norowstray.words import (is_integer, number_words, read_groups, read_integers, read_lines, text_of,
                              word_lines)


def write_store(tables):
    """Return the text of a store, or of any tuple of tables, as they stand."""
    lines = []
    for number, rows in enumerate(tables):
        lines.append(["table", str(number)])
        lines.extend([row_words(row) for row in rows])
    return text_of(lines)


def row_words(row):
    """Return the words of a row."""
    return ["row"] + number_words(row)


def read_store(text):
    """Return the tables of a text; raise BadText."""
    tables = []
    for number, words in enumerate(word_lines(text), start=1):
        rows = read_rows(words)
        if words == ["table", str(len(tables))]:
            tables.append([])
        elif tables and rows is not None and len(rows) == 1:
            tables[-1].append(rows[0])
        else:
            raise BadText(number)
    return tuple([tuple(rows) for rows in tables])


def read_rows(words):
    """Return the rows of the words, each one behind the word "row", or None if they are not of the form."""
    return read_groups(words, "row", read_integers)


def write_steps(steps):
    """Return the text of a tuple of steps."""
    return text_of([step_words(step) for step in steps])


def step_words(step):
    """Return the words of the line of a step."""
    words = [step[0], str(step[1])]
    for row in step[2] if step[0] == "row" else step[2:]:
        words.extend(row_words(row))
    return words


def read_steps(text):
    """Return the steps of a text; raise BadText."""
    return tuple(read_lines(word_lines(text), 1, read_step))


def read_step(words):
    """Return the step of the words of a line, or None if they are not of the form."""
    if len(words) < 2 or not is_integer(words[1]):
        return None
    kind = words[0]
    index = int(words[1])
    rows = read_rows(words[2:])
    if rows is None:
        return None
    if kind == "row":
        return kind, index, rows
    if (kind == "equal" and len(rows) == 2) or (kind == "put" and len(rows) == 1):
        return (kind, index) + rows
    return None
