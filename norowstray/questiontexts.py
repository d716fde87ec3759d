"""Questions as texts."""

from norowstray.errors import BadText, InvalidQuestion
from norowstray.words import is_number, read_lines, text_of, word_lines


def write_question(question):
    """Return the text of a question."""
    head, atoms = question
    lines = [["ask"] + term_words(head)]
    lines.extend([["row", str(table)] + term_words(terms) for table, terms in atoms])
    return text_of(lines)


def term_words(terms):
    """Return the words of some terms."""
    return [str(term) if term >= 0 else "v" + str(-term) for term in terms]


def read_question(text):
    """Return the question of a text; raise BadText or InvalidQuestion."""
    lines = word_lines(text)
    if not lines:
        raise BadText(1)
    head = read_lines(lines[:1], 1, read_head)[0]
    atoms = tuple(read_lines(lines[1:], 2, read_atom))
    check_question(head, atoms)
    return head, atoms


def read_head(words):
    """Return the head of the words of a line, or None if they are not of the form."""
    if words[0] != "ask" or not all([is_variable(word) for word in words[1:]]):
        return None
    return read_terms(words[1:])


def read_atom(words):
    """Return the atom of the words of a line, or None if they are not of the form."""
    if words[0] != "row" or len(words) < 3 or not is_number(words[1]):
        return None
    if not all([is_number(word) or is_variable(word) for word in words[2:]]):
        return None
    return int(words[1]), read_terms(words[2:])


def is_variable(word):
    """Return True if the word is a variable."""
    return word.startswith("v") and word != "v0" and is_number(word[1:])


def read_terms(words):
    """Return the terms of words that are numbers and variables."""
    return tuple([-int(word[1:]) if is_variable(word) else int(word) for word in words])


def check_question(head, atoms):
    """Raise InvalidQuestion unless these are the head and the atoms of a question."""
    if not atoms:
        raise InvalidQuestion("a question has at least one atom")
    for variable in head:
        if not any([variable in terms for _, terms in atoms]):
            raise InvalidQuestion("a variable of the head is in no atom")
