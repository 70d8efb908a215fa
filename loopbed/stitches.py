"""The stitches, and the places of the row below that they take."""

TAKES = {"k": 1, "p": 1, "t": 1, "s": 1, "l": 2, "r": 2, "o": 0}


def is_stitch(letter):
    return letter in TAKES


def places_taken(stitches):
    return sum([TAKES[stitch] for stitch in stitches])


# A stitch's places hang on all stitches to its left, so they are found once for the
# whole row, ahead of working it from either end.
def steps_of(stitches):
    steps = []
    start = 0
    for stitch in stitches:
        end = start + TAKES[stitch]
        steps.append((stitch, start, end))
        start = end
    return steps
