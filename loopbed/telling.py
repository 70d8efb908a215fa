"""The cloth that a good pattern tells, and its live places."""

from loopbed.looking import need_good
from loopbed.stitches import steps_of


def told(pattern):
    need_good(pattern)
    cast = pattern[0]
    cloth = [(cast[2], "t", ()) for number in range(cast[1])]
    places = [[number] for number in range(cast[1])]
    from_right = True
    for row in pattern[1:]:
        places = worked(row, from_right, places, cloth)
        from_right = not from_right
    return (cloth, places)


# Stitches are worked in the row's order, as that numbers their loops; the places are told from the left again.
def worked(row, from_right, places, cloth):
    steps = steps_of(row[2])
    if from_right:
        steps.reverse()
    behind = []
    for stitch, start, end in steps:
        behind.append(stitched(stitch, row[1], places[start:end], cloth))
    if from_right:
        behind.reverse()
    return behind


# The new loop goes into the cloth; the list given back is always a new one, so that no two places share one.
def stitched(stitch, yarn, taken, cloth):
    loops = joined(taken, stitch == "r")
    if stitch == "s":
        return loops
    number = len(cloth)
    if stitch in ("t", "o"):
        cloth.append((yarn, "t", ()))
        return loops + [number]
    way = "p" if stitch == "p" else "k"
    cloth.append((yarn, way, tuple(loops)))
    return [number]


def joined(taken, right_first):
    order = list(taken)
    if right_first:
        order.reverse()
    loops = []
    for place in order:
        loops.extend(place)
    return loops
