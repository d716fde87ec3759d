"""Books as texts: one line for each dependency."""

from norowstray.errors import BadText
from norowstray.schemes import check_book

LONGEST_NUMBER = 60


def write_book(book):
    """Return the text of a book."""
    return "".join([" ".join(dependency_words(dependency)) + "\n" for dependency in book])


def dependency_words(dependency):
    """Return the words of the line of a dependency."""
    kind = dependency[0]
    words = [kind, str(dependency[1])]
    if kind == "joins":
        for part in dependency[2]:
            words.append("part")
            words.extend(number_words(part))
        return words
    words.extend(number_words(dependency[2]))
    if kind == "within":
        return words + ["of", str(dependency[3])] + number_words(dependency[4])
    return words + ["to"] + number_words(dependency[3])


def number_words(numbers):
    """Return the words of some numbers."""
    return [str(number) for number in numbers]


def read_book(scheme, text):
    """Return the book of a text; raise BadText or InvalidBook."""
    book = []
    lines = text.split("\n")
    for number, line in enumerate(lines[:-1], start=1):
        dependency = read_dependency(line.split(" "))
        if dependency is None:
            raise BadText(number)
        book.append(dependency)
    # Behind the last newline there is nothing in a right text.
    if lines[-1] != "":
        raise BadText(len(lines))
    check_book(scheme, tuple(book))
    return tuple(book)


def read_dependency(words):
    """Return the dependency of the words of a line, or None if they are not of the form."""
    kind = words[0]
    if kind not in ("settles", "deals", "joins", "within"):
        return None
    if len(words) < 2 or not is_number(words[1]):
        return None
    table = int(words[1])
    if kind == "joins":
        parts = read_parts(words[2:])
        return None if parts is None else ("joins", table, parts)
    if kind == "within":
        return read_inclusion(table, words[2:])
    return read_sides(kind, table, words[2:])


def read_sides(kind, table, words):
    """Return the dependency "settles" or "deals" of the words behind its table, or None."""
    if "to" not in words:
        return None
    at = words.index("to")
    left = read_numbers(words[:at])
    right = read_numbers(words[at + 1:])
    if left is None or right is None:
        return None
    return kind, table, left, right


def read_parts(words):
    """Return the parts of the words behind the table of a join dependency, or None."""
    if not words or words[0] != "part":
        return None
    groups = []
    for word in words:
        if word == "part":
            groups.append([])
        else:
            groups[-1].append(word)
    parts = [read_numbers(group) for group in groups]
    if None in parts or () in parts:
        return None
    return tuple(parts)


def read_inclusion(table, words):
    """Return the inclusion of the words behind its first table, or None."""
    if "of" not in words:
        return None
    at = words.index("of")
    columns = read_numbers(words[:at])
    rest = read_numbers(words[at + 1:])
    # Behind the word "of" the other table and at least one column are wanted.
    if not columns or rest is None or len(rest) < 2:
        return None
    return "within", table, columns, rest[0], rest[1:]


def read_numbers(words):
    """Return the tuple of the numbers that the words are, or None if one is none."""
    for word in words:
        if not is_number(word):
            return None
    return tuple([int(word) for word in words])


def is_number(word):
    """Return True if the word is a number without sign and needless zeros, not too long."""
    if not word.isdigit() or len(word) > LONGEST_NUMBER:
        return False
    return word == "0" or not word.startswith("0")
