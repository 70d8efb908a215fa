"""A bed of two rows of hooks that knits cloth deed by deed, and gives it back by ripping."""

from loopbed.errors import Empty, NothingDone, Overfull, TooFar

MOST_BORNE = 4
FARTHEST = 2
WAYS = {"f": "k", "b": "p"}
ACROSS = {"f": "b", "b": "f"}


class Bed:
    # Hooks are found by (row, hook), and one that isn't there bears nothing: so a number beyond
    # the bed's ends is a hook of its own, and no other one's. What a hook bears is a tuple, so
    # that what is kept for ripping can't change behind a later deed.
    def __init__(self):
        self.borne = {}
        self.knitted = []
        self.past = []

    def act(self, deed):
        if deed[0] == "knit":
            return self.knit(deed)
        if deed[0] == "tuck":
            return self.tuck(deed)
        return self.move(deed)

    def rip(self):
        if not self.past:
            raise NothingDone("no deed is done that could be ripped")
        last = self.past.pop()
        deed = last[0]
        for spot, loops in last[1]:
            self.borne[spot] = loops
        if deed[0] != "move":
            self.knitted.pop()
        return deed

    def hook(self, row, hook):
        return list(self.loops_at((row, hook)))

    def cloth(self):
        return list(self.knitted)

    def done(self):
        return [step[0] for step in self.past]

    def knit(self, deed):
        spot = (deed[1], deed[2])
        loops = self.loops_at(spot)
        if not loops:
            raise Empty(f"nothing to knit: {deed!r}")
        self.keep(deed, [spot])
        number = self.new_loop(deed[3], WAYS[deed[1]], loops)
        self.borne[spot] = (number,)
        return number

    def tuck(self, deed):
        spot = (deed[1], deed[2])
        loops = self.loops_at(spot)
        if len(loops) >= MOST_BORNE:
            raise Overfull(f"no room for one more loop: {deed!r}")
        self.keep(deed, [spot])
        number = self.new_loop(deed[3], "t", ())
        self.borne[spot] = loops + (number,)
        return number

    def move(self, deed):
        source = (deed[1], deed[2])
        goal = (ACROSS[deed[1]], deed[3])
        if abs(deed[2] - deed[3]) > FARTHEST:
            raise TooFar(f"more than {FARTHEST} hooks apart: {deed!r}")
        loops = self.loops_at(source)
        if not loops:
            raise Empty(f"nothing to move: {deed!r}")
        together = self.loops_at(goal) + loops
        if len(together) > MOST_BORNE:
            raise Overfull(f"no room for all loops: {deed!r}")
        self.keep(deed, [source, goal])
        self.borne[source] = ()
        self.borne[goal] = together
        return None

    def loops_at(self, spot):
        return self.borne.get(spot, ())

    # Called ahead of every change and behind every refusal, so that a refused deed leaves no trace.
    def keep(self, deed, spots):
        self.past.append((deed, [(spot, self.loops_at(spot)) for spot in spots]))

    def new_loop(self, yarn, way, held):
        self.knitted.append((yarn, way, held))
        return len(self.knitted) - 1
