"""The deeds by which a bed knits the cloth of a good pattern."""

from loopbed.looking import need_good
from loopbed.stitches import steps_of

FARTHEST = 2


# Between rows all places hang on the front hooks from 0 on and the back is bare. So each row can
# bring every stitch's loops to the hook where the stitch ends ahead of its first new loop, and
# the loops are then made in the row's order.
def made(pattern):
    need_good(pattern)
    cast = pattern[0]
    deeds = [("tuck", "f", hook, cast[2]) for hook in range(cast[1])]
    from_right = True
    for row in pattern[1:]:
        deeds.extend(joining_moves(row[2]))
        deeds.extend(placing_moves(row[2]))
        deeds.extend(worked_deeds(row, from_right))
        from_right = not from_right
    return deeds


# What comes to a hook hangs behind what was there, so the place whose loops are held first stays.
def joining_moves(stitches):
    deeds = []
    for stitch, start, end in steps_of(stitches):
        if stitch == "l":
            deeds.extend(moves_along(start + 1, start))
        elif stitch == "r":
            deeds.extend(moves_along(start, start + 1))
    return deeds


# The rightmost of those that go right goes first, and the leftmost of those that go left: so
# each finds the hooks up to its goal bare, as no place overtakes another.
def placing_moves(stitches):
    ways = ways_of(stitches)
    deeds = []
    for source, goal in reversed(ways):
        if source < goal:
            deeds.extend(moves_along(source, goal))
    for source, goal in ways:
        if source > goal:
            deeds.extend(moves_along(source, goal))
    return deeds


# For each stitch that takes places: the hook where its loops hang once joined, and the one where it ends.
def ways_of(stitches):
    ways = []
    for goal, step in enumerate(steps_of(stitches)):
        if step[0] == "r":
            ways.append((step[1] + 1, goal))
        elif step[0] != "o":
            ways.append((step[1], goal))
    return ways


# Over the back and to the front again, until the goal is reached.
def moves_along(source, goal):
    deeds = []
    at = source
    while at != goal:
        over = nearer(at, goal)
        deeds.append(("move", "f", at, over))
        at = nearer(over, goal)
        deeds.append(("move", "b", over, at))
    return deeds


def nearer(at, goal):
    return max(at - FARTHEST, min(at + FARTHEST, goal))


def worked_deeds(row, from_right):
    stitches = list(enumerate(row[2]))
    if from_right:
        stitches.reverse()
    deeds = []
    for hook, stitch in stitches:
        deeds.extend(stitch_deeds(stitch, hook, row[1]))
    return deeds


# Only the back gives a loop the way p, so its place goes there and comes back.
def stitch_deeds(stitch, hook, yarn):
    if stitch == "s":
        return []
    if stitch in ("t", "o"):
        return [("tuck", "f", hook, yarn)]
    if stitch == "p":
        return [("move", "f", hook, hook), ("knit", "b", hook, yarn), ("move", "b", hook, hook)]
    return [("knit", "f", hook, yarn)]
