"""Texts as lines of words, and the numbers among these."""

from norowstray.errors import BadText

LONGEST_NUMBER = 60


def text_of(lines):
    """Return the text with these lines, each a list of words."""
    return "".join([" ".join(words) + "\n" for words in lines])


def number_words(numbers):
    """Return the words of some integers."""
    return [str(number) for number in numbers]


def word_lines(text):
    """Return a list of the words of each line, those of a blank line for one that no newline ends."""
    lines = text.split("\n")
    # Neither a line that no newline ends nor a blank one is ever right.
    ended = lines[:-1] + ([] if lines[-1] == "" else [""])
    return [line.split(" ") for line in ended]


def read_lines(lines, first, read):
    """Return a list of what is read of the lines, which are numbered from the first number.

    Read returns None for words that are not of the form; BadText is raised then.
    """
    found = []
    for number, words in enumerate(lines, start=first):
        told = read(words)
        if told is None:
            raise BadText(number)
        found.append(told)
    return found


def read_groups(words, mark, read):
    """Return a tuple of what is read of the words behind each mark, or None if they are not of the form.

    The first word is a mark, and behind each mark there is at least one word.
    """
    groups = []
    for word in words:
        if word == mark:
            groups.append([])
        elif groups:
            groups[-1].append(word)
        else:
            return None
    found = [read(group) for group in groups]
    return None if None in found or [] in groups else tuple(found)


def read_numbers(words):
    """Return the tuple of the numbers that the words are, or None if one is none."""
    if not all([is_number(word) for word in words]):
        return None
    return tuple([int(word) for word in words])


def read_integers(words):
    """Return the tuple of the integers that the words are, or None if one is none."""
    if not all([is_integer(word) for word in words]):
        return None
    return tuple([int(word) for word in words])


def is_number(word):
    """Return True if the word is a number without sign and needless zeros, not too long."""
    if not word.isdigit() or len(word) > LONGEST_NUMBER:
        return False
    return word == "0" or not word.startswith("0")


def is_integer(word):
    """Return True if the word is a number, or "-" and one that is not 0."""
    return is_number(word) or (word.startswith("-") and word != "-0" and is_number(word[1:]))
