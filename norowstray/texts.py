"""Books as texts: one line for each dependency."""

from norowstray.schemes import check_book
from norowstray.words import is_number, number_words, read_groups, read_lines, read_numbers, text_of, word_lines


def write_book(book):
    """Return the text of a book."""
    return text_of([dependency_words(dependency) for dependency in book])


def dependency_words(dependency):
    """Return the words of the line of a dependency."""
    kind = dependency[0]
    words = [kind, str(dependency[1])]
    if kind == "joins":
        for part in dependency[2]:
            words.append("part")
            words.extend(number_words(part))
        return words
    words.extend(number_words(dependency[2]))
    if kind == "within":
        return words + ["of", str(dependency[3])] + number_words(dependency[4])
    return words + ["to"] + number_words(dependency[3])


def read_book(scheme, text):
    """Return the book of a text; raise BadText or InvalidBook."""
    book = tuple(read_lines(word_lines(text), 1, read_dependency))
    check_book(scheme, book)
    return book


def read_dependency(words):
    """Return the dependency of the words of a line, or None if they are not of the form."""
    kind = words[0]
    if kind not in ("settles", "deals", "joins", "within"):
        return None
    if len(words) < 2 or not is_number(words[1]):
        return None
    table = int(words[1])
    if kind == "joins":
        parts = read_groups(words[2:], "part", read_numbers)
        return ("joins", table, parts) if parts else None
    if kind == "within":
        return read_inclusion(table, words[2:])
    return read_sides(kind, table, words[2:])


def read_sides(kind, table, words):
    """Return the dependency "settles" or "deals" of the words behind its table, or None."""
    if "to" not in words:
        return None
    at = words.index("to")
    left = read_numbers(words[:at])
    right = read_numbers(words[at + 1:])
    if left is None or right is None:
        return None
    return kind, table, left, right


def read_inclusion(table, words):
    """Return the inclusion of the words behind its first table, or None."""
    if "of" not in words:
        return None
    at = words.index("of")
    columns = read_numbers(words[:at])
    rest = read_numbers(words[at + 1:])
    # Behind the word "of" the other table and at least one column are wanted.
    if not columns or rest is None or len(rest) < 2:
        return None
    return "within", table, columns, rest[0], rest[1:]
