"""Deeds put into passes, as few as can be."""


def is_pass(deeds):
    return len(deeds) > 0 and pass_end(deeds, 0) == len(deeds)


# Every part of a pass is a pass too, so no cutting gets along with fewer than the one whose
# passes each go as far as they can.
def passes(deeds):
    found = []
    start = 0
    while start < len(deeds):
        end = pass_end(deeds, start)
        found.append(deeds[start:end])
        start = end
    return found


# The end of the longest pass that begins at start.
def pass_end(deeds, start):
    if deeds[start][0] == "move":
        return moves_end(deeds, start)
    return loops_end(deeds, start)


def moves_end(deeds, start):
    first = deeds[start]
    emptied = {}
    for at in range(start, len(deeds)):
        deed = deeds[at]
        if not is_move_beside(first, deed) or deed[2] in emptied:
            return at
        emptied[deed[2]] = True
    return len(deeds)


def is_move_beside(first, deed):
    return deed[0] == "move" and deed[1] == first[1] and deed[3] - deed[2] == first[3] - first[2]


# The first two deeds settle whether the hooks rise or fall; until then nothing is settled.
def loops_end(deeds, start):
    settled = None
    for at in range(start + 1, len(deeds)):
        before = deeds[at - 1]
        deed = deeds[at]
        if deed[0] == "move" or deed[3] != before[3] or deed[2] == before[2]:
            return at
        rises = deed[2] > before[2]
        if settled is not None and rises != settled:
            return at
        settled = rises
    return len(deeds)
