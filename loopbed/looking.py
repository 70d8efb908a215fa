"""Whether a pattern is good, or which row of it has which fault."""

from loopbed.errors import Unfit
from loopbed.stitches import places_taken, steps_of

MOST_WIDE = 16
MOST_LOOPS = 4


# How many loops hang at each place is enough to find every fault; which ones they are is not needed.
def looked(pattern):
    counts = [1] * pattern[0][1]
    widths = [len(counts)]
    for number, row in enumerate(pattern[1:], start=1):
        stitches = row[2]
        fault = fault_of(stitches, counts)
        if fault is not None:
            return (fault, number)
        counts = counts_behind(stitches, counts)
        widths.append(len(counts))
    return ("good", widths)


def need_good(pattern):
    if looked(pattern)[0] != "good":
        raise Unfit("the pattern has a row with a fault")


def fault_of(stitches, counts):
    if len(stitches) > MOST_WIDE:
        return "wide"
    if places_taken(stitches) != len(counts):
        return "fit"
    for stitch, start, end in steps_of(stitches):
        if is_too_many(stitch, sum(counts[start:end])):
            return "many"
    return None


# k, p and s may meet as many loops as can hang at a place, so they are never at fault.
def is_too_many(stitch, met):
    if stitch == "t":
        return met + 1 > MOST_LOOPS
    return stitch in ("l", "r") and met > MOST_LOOPS


def counts_behind(stitches, counts):
    behind = []
    for stitch, start, end in steps_of(stitches):
        behind.append(count_left(stitch, sum(counts[start:end])))
    return behind


def count_left(stitch, met):
    if stitch == "s":
        return met
    if stitch == "t":
        return met + 1
    return 1
