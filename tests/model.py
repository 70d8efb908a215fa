"""A second telling of the document's points, by another way than the program's, and patterns to ask of both."""

import copy
import random

YARNS = "abcdef"
STITCHES = "kptslro"
WIDTHS = {"k": 1, "p": 1, "t": 1, "s": 1, "l": 2, "r": 2, "o": 0}


def row_fault(stitches, live):
    if len(stitches) > 16:
        return "wide"
    if sum(WIDTHS[s] for s in stitches) != len(live):
        return "fit"
    rest = [list(place) for place in live]
    for s in stitches:
        met = [rest.pop(0) for _ in range(WIDTHS[s])]
        if s == "t" and len(met[0]) == 4:
            return "many"
        if s in "lr" and len(met[0] + met[1]) >= 5:
            return "many"
    return None


def row_worked(cloth, live, yarn, stitches, from_right):
    """The numbers are dealt out first, then the row is built from the left whichever way it was worked."""
    makers = [at for at, s in enumerate(stitches) if s != "s"]
    if from_right:
        makers = makers[::-1]
    number = {at: len(cloth) + nth for nth, at in enumerate(makers)}
    new = {}
    behind = []
    rest = [list(place) for place in live]
    for at, s in enumerate(stitches):
        met = [rest.pop(0) for _ in range(WIDTHS[s])]
        if s == "s":
            behind.append(met[0])
            continue
        mine = number[at]
        if s == "t":
            new[mine] = (yarn, "t", ())
            behind.append(met[0] + [mine])
        elif s == "o":
            new[mine] = (yarn, "t", ())
            behind.append([mine])
        else:
            held = {"k": lambda: met[0], "p": lambda: met[0],
                    "l": lambda: met[0] + met[1], "r": lambda: met[1] + met[0]}[s]()
            new[mine] = (yarn, {"k": "k", "p": "p", "l": "k", "r": "k"}[s], tuple(held))
            behind.append([mine])
    return cloth + [new[n] for n in sorted(new)], behind


def modelled(pattern):
    """What looked tells, and what told tells (None for a pattern that isn't good)."""
    _, many, yarn = pattern[0]
    cloth = [(yarn, "t", ())] * many
    live = [[n] for n in range(many)]
    widths = [many]
    for number, (_, yarn, stitches) in enumerate(pattern[1:], 1):
        fault = row_fault(stitches, live)
        if fault:
            return (fault, number), None
        cloth, live = row_worked(cloth, live, yarn, stitches, number % 2 == 1)
        widths.append(len(live))
    return ("good", widths), (cloth, live)


def fitting_row(rng, live):
    """A row without a fault, by trial: stitches drawn until they fit."""
    while True:
        stitches = ""
        at = 0
        while at < len(live):
            s = rng.choice("kptsttlrso")
            if at + WIDTHS[s] <= len(live):
                stitches += s
                at += WIDTHS[s]
        if rng.randrange(3) == 0:
            stitches += "o"
        if row_fault(stitches, live) is None:
            return stitches


def good_patterns(seed, many):
    """Good patterns of 0 to 12 rows, the same ones for the same seed."""
    rng = random.Random(seed)
    found = []
    for nth in range(many):
        pattern = [("cast", rng.randrange(1, 17), rng.choice(YARNS))]
        for _ in range(nth % 13):
            live = modelled(pattern)[1][1]
            pattern.append(("row", rng.choice(YARNS), fitting_row(rng, live)))
        found.append(pattern)
    return found


def any_patterns(seed, many):
    """Patterns whose rows may fit or not."""
    rng = random.Random(seed)
    found = []
    for nth in range(many):
        pattern = [("cast", 1 + nth % 16, rng.choice(YARNS))]
        for _ in range(rng.randrange(13)):
            stitches = "".join(rng.choice(STITCHES) for _ in range(rng.randrange(1, 25)))
            pattern.append(("row", rng.choice(YARNS), stitches))
        found.append(pattern)
    return found


def asked(function, value):
    """The answer; fails where the call changes what is handed in."""
    before = copy.deepcopy(value)
    try:
        return function(value)
    finally:
        if value != before or repr(value) != repr(before):
            raise AssertionError(f"what was handed in was changed: {before!r} to {value!r}")


def lists_in(value):
    """Every list in a value, however deep."""
    if isinstance(value, dict):
        raise AssertionError("a dict is never told")
    if not isinstance(value, (list, tuple)):
        return []
    found = [value] if isinstance(value, list) else []
    for part in value:
        found += lists_in(part)
    return found


class ModelBed:
    """A bed without hooks: all hanging loops in one list, each with its row and hook, and a ripping is all done anew."""

    def __init__(self):
        self.deeds = []
        self.anew()

    def anew(self):
        self.hanging = []
        self.loops = []

    def on(self, row, hook):
        return [loop for r, h, loop in self.hanging if r == row and h == hook]

    def refusal(self, deed):
        """The name of the class that the deed is refused with, None where it is done."""
        kind, row, hook, last = deed
        here = len(self.on(row, hook))
        if kind == "knit":
            return "Empty" if here == 0 else None
        if kind == "tuck":
            return "Overfull" if here == 4 else None
        if last - hook not in (-2, -1, 0, 1, 2):
            return "TooFar"
        if here == 0:
            return "Empty"
        return "Overfull" if here + len(self.on("bf"[row == "b"], last)) > 4 else None

    def act(self, deed):
        kind, row, hook, last = deed
        here = self.on(row, hook)
        self.deeds.append(deed)
        if kind == "move":
            self.hanging = [one for one in self.hanging if one[2] not in here]
            self.hanging += [({"f": "b", "b": "f"}[row], last, loop) for loop in here]
            return None
        number = len(self.loops)
        if kind == "knit":
            self.hanging = [one for one in self.hanging if one[2] not in here]
            self.loops.append((last, "k" if row == "f" else "p", tuple(here)))
        else:
            self.loops.append((last, "t", ()))
        self.hanging.append((row, hook, number))
        return number

    def rip(self):
        kept = self.deeds[:-1]
        last = self.deeds[-1]
        self.deeds = []
        self.anew()
        for deed in kept:
            self.act(deed)
        return last

    def state(self):
        return state_of(self.on, self.loops, self.deeds)


def state_of(hook, cloth, done):
    """All that can be asked of a bed, with some numbers beyond its ends."""
    return {(row, at): hook(row, at) for row in "fb" for at in range(-4, 20)}, list(cloth), list(done)


def bed_state(bed):
    return state_of(bed.hook, bed.cloth(), bed.done())


def drawn_deed(rng, hooks):
    row = rng.choice("fb")
    hook = rng.choice(hooks)
    kind = rng.choice(("knit", "tuck", "tuck", "move", "move"))
    if kind == "move":
        return (kind, row, hook, rng.choice([max(0, min(15, hook + rng.randrange(-3, 4)))] * 3 + [rng.choice(hooks)]))
    return (kind, row, hook, rng.choice(YARNS))


def drawn_hooks(rng):
    """Few neighbouring hooks, so that deeds meet."""
    start = rng.choice((0, 0, 13, 13, rng.randrange(0, 14)))
    return list(range(start, start + rng.randrange(1, 4)))


def wide_patterns(seed, many):
    """Good patterns of up to 16 places whose rows grow and shrink by much."""
    rng = random.Random(seed)
    found = []
    for nth in range(many):
        pattern = [("cast", rng.choice((1, 2, 15, 16, 16)), rng.choice(YARNS))]
        for _ in range(1 + nth % 12):
            live = modelled(pattern)[1][1]
            pattern.append(("row", rng.choice(YARNS), wide_row(rng, live)))
        found.append(pattern)
    return found


def wide_row(rng, live):
    """One row that draws together and lets out, the rest of its stitches such as keep a place."""
    stitches = []
    at = 0
    eager = rng.randrange(4)
    while at < len(live):
        pair = live[at:at + 2]
        if rng.randrange(4) < eager and len(pair) == 2 and len(pair[0]) + len(pair[1]) <= 4:
            stitches.append(rng.choice("lr"))
            at += 2
        else:
            stitches.append(rng.choice("kpst" if len(live[at]) < 4 else "kps"))
            at += 1
    room = rng.choice((0, 16 - len(stitches), rng.randrange(17 - len(stitches))))
    spot = rng.randrange(len(stitches) + 1)
    for _ in range(room):
        if rng.randrange(4) == 0:
            spot = rng.randrange(len(stitches) + 1)
        stitches.insert(spot, "o")
    return "".join(stitches)
