"""Patterns as texts: written one line for each part, and read back."""

from loopbed.errors import NoPattern
from loopbed.stitches import is_stitch

YARNS = ("a", "b", "c", "d", "e", "f")
MOST_CAST = 16
MOST_ROWS = 12
MOST_STITCHES = 24


def shown(pattern):
    return "\n".join([line_of(part) for part in pattern])


def line_of(part):
    return " ".join([str(word) for word in part])


def read(text):
    lines = text.split("\n")
    if len(lines) > 1 + MOST_ROWS:
        raise NoPattern(f"more than {MOST_ROWS} rows")
    pattern = [read_cast(lines[0])]
    for line in lines[1:]:
        pattern.append(read_row(line))
    return pattern


def read_cast(line):
    words = words_behind("cast", line)
    return ("cast", read_many(words[0]), read_yarn(words[1]))


def read_row(line):
    words = words_behind("row", line)
    return ("row", read_yarn(words[0]), read_stitches(words[1]))


# The line is parted at each single blank, so that a blank too many leaves a word too many.
def words_behind(first, line):
    words = line.split(" ")
    if len(words) != 3 or words[0] != first:
        raise NoPattern(f"no {first} line: {line!r}")
    return words[1:]


# Compared with the written numbers themselves: int would also take signs and noughts ahead.
def read_many(figures):
    if figures not in [str(many) for many in range(1, MOST_CAST + 1)]:
        raise NoPattern(f"no number from 1 to {MOST_CAST}: {figures!r}")
    return int(figures)


def read_yarn(word):
    if word not in YARNS:
        raise NoPattern(f"no yarn: {word!r}")
    return word


def read_stitches(word):
    if len(word) < 1 or len(word) > MOST_STITCHES:
        raise NoPattern(f"not 1 to {MOST_STITCHES} stitches: {word!r}")
    if not all([is_stitch(letter) for letter in word]):
        raise NoPattern(f"a letter that is no stitch: {word!r}")
    return word
