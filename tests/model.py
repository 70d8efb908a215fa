"""A second telling of the document's points, by another way than the program's, and patterns to ask of both."""

import copy
import random

YARNS = "abcdef"
STITCHES = "kptslro"
WIDTHS = {"k": 1, "p": 1, "t": 1, "s": 1, "l": 2, "r": 2, "o": 0}


def row_fault(stitches, live):
    if len(stitches) > 16:
        return "wide"
    if sum(WIDTHS[s] for s in stitches) != len(live):
        return "fit"
    rest = [list(place) for place in live]
    for s in stitches:
        met = [rest.pop(0) for _ in range(WIDTHS[s])]
        if s == "t" and len(met[0]) == 4:
            return "many"
        if s in "lr" and len(met[0] + met[1]) >= 5:
            return "many"
    return None


def row_worked(cloth, live, yarn, stitches, from_right):
    """The numbers are dealt out first, then the row is built from the left whichever way it was worked."""
    makers = [at for at, s in enumerate(stitches) if s != "s"]
    if from_right:
        makers = makers[::-1]
    number = {at: len(cloth) + nth for nth, at in enumerate(makers)}
    new = {}
    behind = []
    rest = [list(place) for place in live]
    for at, s in enumerate(stitches):
        met = [rest.pop(0) for _ in range(WIDTHS[s])]
        if s == "s":
            behind.append(met[0])
            continue
        mine = number[at]
        if s == "t":
            new[mine] = (yarn, "t", ())
            behind.append(met[0] + [mine])
        elif s == "o":
            new[mine] = (yarn, "t", ())
            behind.append([mine])
        else:
            held = {"k": lambda: met[0], "p": lambda: met[0],
                    "l": lambda: met[0] + met[1], "r": lambda: met[1] + met[0]}[s]()
            new[mine] = (yarn, {"k": "k", "p": "p", "l": "k", "r": "k"}[s], tuple(held))
            behind.append([mine])
    return cloth + [new[n] for n in sorted(new)], behind


def modelled(pattern):
    """What looked tells, and what told tells (None for a pattern that isn't good)."""
    _, many, yarn = pattern[0]
    cloth = [(yarn, "t", ())] * many
    live = [[n] for n in range(many)]
    widths = [many]
    for number, (_, yarn, stitches) in enumerate(pattern[1:], 1):
        fault = row_fault(stitches, live)
        if fault:
            return (fault, number), None
        cloth, live = row_worked(cloth, live, yarn, stitches, number % 2 == 1)
        widths.append(len(live))
    return ("good", widths), (cloth, live)


def fitting_row(rng, live):
    """A row without a fault, by trial: stitches drawn until they fit."""
    while True:
        stitches = ""
        at = 0
        while at < len(live):
            s = rng.choice("kptsttlrso")
            if at + WIDTHS[s] <= len(live):
                stitches += s
                at += WIDTHS[s]
        if rng.randrange(3) == 0:
            stitches += "o"
        if row_fault(stitches, live) is None:
            return stitches


def good_patterns(seed, many):
    """Good patterns of 0 to 12 rows, the same ones for the same seed."""
    rng = random.Random(seed)
    found = []
    for nth in range(many):
        pattern = [("cast", rng.randrange(1, 17), rng.choice(YARNS))]
        for _ in range(nth % 13):
            live = modelled(pattern)[1][1]
            pattern.append(("row", rng.choice(YARNS), fitting_row(rng, live)))
        found.append(pattern)
    return found


def any_patterns(seed, many):
    """Patterns whose rows may fit or not."""
    rng = random.Random(seed)
    found = []
    for nth in range(many):
        pattern = [("cast", 1 + nth % 16, rng.choice(YARNS))]
        for _ in range(rng.randrange(13)):
            stitches = "".join(rng.choice(STITCHES) for _ in range(rng.randrange(1, 25)))
            pattern.append(("row", rng.choice(YARNS), stitches))
        found.append(pattern)
    return found


def asked(function, value):
    """The answer; fails where the call changes what is handed in."""
    before = copy.deepcopy(value)
    try:
        return function(value)
    finally:
        if value != before or repr(value) != repr(before):
            raise AssertionError(f"what was handed in was changed: {before!r} to {value!r}")


def lists_in(value):
    """Every list in a value, however deep."""
    if isinstance(value, dict):
        raise AssertionError("a dict is never told")
    if not isinstance(value, (list, tuple)):
        return []
    found = [value] if isinstance(value, list) else []
    for part in value:
        found += lists_in(part)
    return found
