"""Texts: rows as they are written by hand, with labels."""

from nearpool.errors import BadText
from nearpool.rows import FORMS, REGISTERS, is_jump

LETTERS = "abcdefghijklmnopqrstuvwxyz"
FIGURES = "0123456789"
LONGEST_LABEL = 8
MOST_FIGURES = 8


def is_made_of(word, signs, most):
    """Whether the word has at least one sign, at most so many, and these signs alone."""
    return 1 <= len(word) <= most and all([sign in signs for sign in word])


def is_label(word):
    """Whether the word may be a label."""
    return is_made_of(word, LETTERS, LONGEST_LABEL)


def is_figures(word):
    """Whether the word is a number as it must be written."""
    return is_made_of(word, FIGURES, MOST_FIGURES) and (word == "0" or not word.startswith("0"))


def is_part(sign, word):
    """Whether the word may stand in a row where its form has that sign."""
    if sign == "r":
        return is_made_of(word, LETTERS[:REGISTERS], 1)
    return is_figures(word) if sign == "n" else is_label(word)


def bears_label(line):
    """Whether the line is a label's and no row's, if it is rightly written at all."""
    return line.endswith(":")


def is_written(line):
    """Whether the line is so written as a row or a label must be."""
    if bears_label(line):
        return is_label(line[:-1])
    word, *parts = line.split(" ")
    if word not in FORMS or len(parts) != len(FORMS[word]):
        return False
    return all([is_part(sign, part) for sign, part in zip(FORMS[word], parts)])


def labels_in(lines, first):
    """The numbers of rows by their labels; refused at a line that isn't so written or has a label anew."""
    labels = {}
    many = 0
    for at, line in enumerate(lines, start=first):
        if not is_written(line):
            raise BadText(at)
        if not bears_label(line):
            many += 1
        elif line[:-1] in labels:
            raise BadText(at)
        else:
            labels[line[:-1]] = many
    return labels


def row_in(line, at, labels):
    """The row of a line; refused where it goes to a label that no line has."""
    word, *parts = line.split(" ")
    row = (word,)
    for sign, part in zip(FORMS[word], parts):
        if sign == "r":
            row += (LETTERS.index(part),)
        elif sign == "n":
            row += (int(part),)
        elif part in labels:
            row += (labels[part],)
        else:
            raise BadText(at)
    return row


def rows_in(lines, first):
    """The rows of lines, the first of which has that number where one is refused."""
    labels = labels_in(lines, first)
    return [row_in(line, at, labels) for at, line in enumerate(lines, start=first) if not bears_label(line)]


def rows_from(text):
    """The rows of a text."""
    return rows_in([] if text == "" else text.split("\n"), 0)


def label_of(number):
    """The letters for a row's number."""
    ahead = number // len(LETTERS)
    # Two letters stand for 676 rows; cells read back may have more, which get a letter more.
    head = LETTERS[ahead] if ahead < len(LETTERS) else label_of(ahead)
    return head + LETTERS[number % len(LETTERS)]


def line_of(row):
    """The line in which a row is written."""
    words = [row[0]]
    for sign, part in zip(FORMS[row[0]], row[1:]):
        if sign == "r":
            words.append(LETTERS[part])
        else:
            words.append(str(part) if sign == "n" else label_of(part))
    return " ".join(words)


def text_from(rows):
    """The text of rows, with a label ahead of each row that is gone to."""
    goals = {row[-1] for row in rows if is_jump(row)}
    lines = []
    for at in range(len(rows) + 1):
        if at in goals:
            lines.append(f"{label_of(at)}:")
        if at < len(rows):
            lines.append(line_of(rows[at]))
    return "\n".join(lines)
