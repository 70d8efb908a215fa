import copy
import itertools
import random
import unittest

from loopbed.making import made
from loopbed.passes import is_pass, passes
from model import asked, drawn_deed, good_patterns, lists_in, wide_patterns


def modelled_pass(deeds):
    """The words of the point, over all deeds and all pairs of them at once."""
    if not deeds:
        return False
    pairs = list(itertools.combinations(deeds, 2))
    if all(kind == "move" for kind, _, _, _ in deeds):
        return len({(row, to - hook) for _, row, hook, to in deeds}) == 1 and all(a[2] != b[2] for a, b in pairs)
    if any(kind == "move" for kind, _, _, _ in deeds):
        return False
    one_yarn = len({yarn for _, _, _, yarn in deeds}) == 1
    return one_yarn and (all(a[2] < b[2] for a, b in pairs) or all(a[2] > b[2] for a, b in pairs))


def fewest_by_all_cuttings(deeds):
    """How few passes any cutting has, every cutting tried."""
    best = None
    for cuts in itertools.product((False, True), repeat=max(0, len(deeds) - 1)):
        ends = [at + 1 for at, cut in enumerate(cuts) if cut] + [len(deeds)]
        parts = [deeds[start:end] for start, end in zip([0] + ends, ends)]
        if all(modelled_pass(part) for part in parts) and (best is None or len(parts) < best):
            best = len(parts)
    return best


def fewest_by_steps(deeds):
    """The same for long rows of deeds: the fewest up to each deed from the fewest up to all ahead of it.

    No pass has more deeds than there are hooks, so none of over 20 is looked for.
    """
    fewest = [0]
    for end in range(1, len(deeds) + 1):
        starts = [start for start in range(max(0, end - 20), end) if modelled_pass(deeds[start:end])]
        fewest.append(1 + min(fewest[start] for start in starts))
    return fewest[-1]


def knits(hooks, row="f", yarn="a", kind="knit"):
    return [(kind, row, hook, yarn) for hook in hooks]


def moves(hooks, by=0, row="f"):
    return [("move", row, hook, hook + by) for hook in hooks]


class IsPassTest(unittest.TestCase):
    def check(self, expected, deeds):
        with self.subTest(deeds):
            self.assertIs(asked(is_pass, deeds), expected)
            self.assertIs(modelled_pass(deeds), expected)

    def test_no_deeds(self):
        self.check(False, [])

    def test_one_deed(self):
        for row in "fb":
            for hook in (0, 7, 15):
                self.check(True, [("knit", row, hook, "a")])
                self.check(True, [("tuck", row, hook, "f")])
                for to in range(16):
                    self.check(True, [("move", row, hook, to)])

    def test_moves(self):
        for row in "fb":
            for by in (-15, -3, -2, -1, 0, 1, 2, 3, 15):
                self.check(True, moves([4, 5], by, row))
                self.check(True, moves([5, 4], by, row))
                self.check(True, moves([3, 9, 4, 0, 15, 6], by, row))
                self.check(True, moves(range(16), by, row))
                self.check(False, moves([4, 4], by, row))
                self.check(False, moves([4, 5, 6, 4], by, row))
                self.check(False, moves([4, 5, 5], by, row))
                for other in (-2, -1, 0, 1, 2):
                    self.check(by == other, moves([4], by, row) + moves([5], other, row))
                    self.check(by == other, moves([4, 5], by, row) + moves([6], other, row))
        for by in (-2, 0, 1):
            self.check(False, moves([4], by, "f") + moves([5], by, "b"))
            self.check(False, moves([4], by, "b") + moves([5], by, "f"))
            self.check(False, moves([4, 6], by, "b") + moves([5], by, "f"))
            self.check(False, moves([4], by, "f") + moves([4], by, "b"))
            self.check(False, moves([4], by, "f") + moves([5], -by - 1, "f"))

    def test_as_many_hooks_to_the_other_side(self):
        for by in (1, 2, 3):
            self.check(False, moves([4], by) + moves([8], -by))
            self.check(False, moves([4], 0) + moves([8], by))
            self.check(False, [("move", "f", 4, 5), ("move", "f", 6, 5)])

    def test_knits_and_tucks(self):
        for kind in ("knit", "tuck"):
            for row in "fb":
                for hooks in (range(16), range(15, -1, -1), [0, 15], [15, 0], [2, 3, 7], [7, 3, 2]):
                    self.check(True, knits(hooks, row, "b", kind))
                for hooks in ([4, 4], [1, 2, 2], [2, 2, 1], [2, 1, 1], [1, 1, 2], [1, 2, 1], [2, 1, 2], [1, 3, 2],
                              [3, 1, 2], [0, 1, 2, 0], [9, 8, 7, 15], [1, 2, 3, 3], [3, 2, 1, 1]):
                    self.check(False, knits(hooks, row, "b", kind))

    def test_either_row_and_either_kind_together(self):
        for first, second in itertools.product(itertools.product(("knit", "tuck"), "fb"), repeat=2):
            one = [(first[0], first[1], 4, "c")]
            self.check(True, one + [(second[0], second[1], 5, "c")])
            self.check(True, one + [(second[0], second[1], 3, "c")])
            self.check(False, one + [(second[0], second[1], 4, "c")])
            self.check(False, one + [(second[0], second[1], 5, "d")])

    def test_yarns(self):
        self.check(False, knits([1]) + knits([2], yarn="b"))
        self.check(False, knits([1, 2]) + knits([3], yarn="b"))
        self.check(False, knits([1]) + knits([2], yarn="b") + knits([3]))
        self.check(True, knits([1, 2, 3], yarn="f"))

    def test_moves_among_knits(self):
        for kind in ("knit", "tuck"):
            for row in "fb":
                made_loops = knits([4, 5, 6], row, "a", kind)
                self.check(False, made_loops + moves([7]))
                self.check(False, moves([3]) + made_loops)
                self.check(False, made_loops[:1] + moves([7]) + made_loops[1:])
                self.check(False, moves([3, 4]) + made_loops[:1])
                self.check(False, made_loops[:1] + moves([3]))
                self.check(False, moves([3]) + made_loops[:1] + moves([4]))

    def test_passes_changed_in_one_part(self):
        whole = [moves([3, 9, 4, 0], 1), moves([1, 2], -2, "b"), moves([5, 6, 7], 0), knits([2, 4, 9]),
                 knits([9, 4, 2], "b", "c", "tuck"), knits([3, 4]), [("knit", "f", 1, "a"), ("tuck", "b", 2, "a")]]
        seen = set()
        for deeds in whole:
            self.check(True, deeds)
            for at, deed in enumerate(deeds):
                last = range(16) if deed[0] == "move" else "abc"
                changed = [deed[:1] + (row,) + deed[2:] for row in "fb"]
                changed += [deed[:2] + (hook,) + deed[3:] for hook in range(16)]
                changed += [deed[:3] + (value,) for value in last]
                changed += [("knit", "f", deed[2], "a"), ("tuck", "f", deed[2], "a"), ("move", "f", deed[2], deed[2])]
                for one in changed:
                    other = deeds[:at] + [one] + deeds[at + 1:]
                    self.check(modelled_pass(other), other)
                    seen.add(modelled_pass(other))
                self.check(len(deeds) > 1, deeds[:at] + deeds[at + 1:])
                self.check(False, deeds[:at] + [deed, deed] + deeds[at + 1:])
        self.assertEqual(seen, {True, False})

    def test_drawn_deeds(self):
        rng = random.Random(41)
        seen = [0, 0]
        for nth in range(20000):
            deeds = [small_deed(rng, nth) for _ in range(rng.randrange(1, 5))]
            self.assertIs(is_pass(deeds), modelled_pass(deeds), deeds)
            seen[modelled_pass(deeds)] += len(deeds) > 1
        self.assertGreater(min(seen), 1000)


def small_deed(rng, nth):
    """Few rows, hooks and yarns, so that neighbours often fit together."""
    kind = rng.choice(("move",) * 5 + ("knit", "tuck")) if nth % 2 else rng.choice(("knit", "tuck") * 4 + ("move",))
    row = rng.choice("ffffb")
    hook = rng.randrange(6)
    if kind == "move":
        return (kind, row, hook, hook + rng.choice((1, 1, 1, 0, -1)))
    return (kind, row, hook, rng.choice("aaaab"))


class PassesTest(unittest.TestCase):
    def check(self, deeds, fewest):
        answer = asked(passes, deeds)
        self.assertIs(type(answer), list)
        for part in answer:
            self.assertIs(type(part), list)
            self.assertTrue(modelled_pass(part), part)
        self.assertEqual([deed for part in answer for deed in part], deeds)
        self.assertTrue(all(type(deed) is tuple for part in answer for deed in part))
        self.assertEqual(len(answer), fewest, deeds)

    def test_no_deeds(self):
        self.check([], 0)
        self.assertEqual(passes([]), [])

    def test_one_pass(self):
        for deeds in (knits([3]), knits(range(16)), knits([9, 2, 1], "b", "c"), moves([3, 1, 9], 2), moves(range(16))):
            self.check(deeds, 1)
            self.assertEqual(passes(deeds), [deeds])

    def test_where_there_is_but_one_way_to_cut(self):
        deeds = knits([1, 2, 3]) + knits([4, 5], yarn="b") + moves([1, 2]) + moves([1, 2], 0, "b") + knits([3])
        self.check(deeds, 5)
        self.assertEqual(passes(deeds), [deeds[:3], deeds[3:5], deeds[5:7], deeds[7:9], deeds[9:]])

    def test_where_the_hooks_turn(self):
        self.check(knits([1, 2, 3, 2, 1]), 2)
        self.check(knits([1, 2, 1, 2, 1]), 3)
        self.check(knits([1, 2, 1, 2, 1, 2]), 3)
        self.check(knits([3, 1, 2, 3]), 2)
        self.check(knits([4, 4, 4]), 3)
        self.check(knits([2, 1, 1, 2]), 2)
        self.check(moves([1, 2, 1, 2]), 2)
        self.check(moves([1, 2, 3, 3, 2, 1]), 2)
        self.check(moves([1, 2, 3, 2, 4, 5, 1]), 2)

    def test_deeds_said_twice(self):
        for deeds in (knits([3, 4]), moves([3, 4], 1)):
            self.check(deeds * 2, 2)
            self.check([deed for deed in deeds for _ in range(2)], 3)
            self.check(deeds * 20, 20)

    def test_deeds_that_no_bed_would_do(self):
        self.check(moves([0, 1], 9) + moves([3], -3), 2)
        self.check(knits([5, 9, 14]) + moves([2, 3], 15), 2)
        self.check(knits([14, 17, 20, 25]), 1)
        self.check(moves([16, 18, -1], -5), 1)

    def test_every_short_row_of_few_deeds(self):
        few = [("knit", "f", 0, "a"), ("tuck", "b", 1, "a"), ("knit", "f", 2, "b"), ("knit", "b", 2, "a"),
               ("move", "f", 0, 1), ("move", "f", 1, 2), ("move", "f", 1, 1), ("move", "b", 0, 1)]
        for long in range(1, 5):
            for deeds in itertools.product(few, repeat=long):
                self.check(list(deeds), fewest_by_all_cuttings(list(deeds)))

    def test_drawn_deeds_against_all_cuttings(self):
        rng = random.Random(42)
        for nth in range(400):
            deeds = [small_deed(rng, nth) for _ in range(rng.randrange(9))]
            fewest = fewest_by_all_cuttings(deeds) if deeds else 0
            self.check(deeds, fewest)
            self.assertEqual(fewest_by_steps(deeds), fewest)

    def test_drawn_deeds_against_fewest_by_steps(self):
        rng = random.Random(43)
        for nth in range(60):
            deeds = [small_deed(rng, nth) for _ in range(rng.randrange(80))]
            self.check(deeds, fewest_by_steps(deeds))
            deeds = [drawn_deed(rng, range(16)) for _ in range(rng.randrange(80))]
            self.check(deeds, fewest_by_steps(deeds))

    def test_the_passes_of_made_deeds(self):
        for pattern in good_patterns(44, 39) + wide_patterns(45, 24):
            deeds = made(pattern)
            self.check(deeds, fewest_by_steps(deeds))

    def test_five_thousand_deeds(self):
        rng = random.Random(46)
        drawn = [small_deed(rng, 0) for _ in range(5000)]
        self.check(drawn, fewest_by_steps(drawn))
        self.check(knits([4] * 5000), 5000)
        self.check(moves([4] * 5000), 5000)
        self.check(moves(list(range(16)) * 313)[:5000], 313)
        self.check(knits((list(range(16)) + list(range(15, -1, -1))) * 157)[:5000], 313)
        self.check(knits([0, 1] * 2500), 2500)

    def test_somewhat_more_deeds_are_not_refused(self):
        self.check(knits([0, 1] * 2600), 2600)
        long = [("tuck", "f", hook, "a") for hook in range(5200)]
        self.assertEqual(passes(long), [long])
        self.assertIs(is_pass(long), True)
        far = [("move", "b", hook, hook + 1) for hook in range(5200)]
        self.assertEqual(passes(far), [far])
        self.assertIs(is_pass(far), True)
        self.assertIs(is_pass(far + far[:1]), False)


class OwnTest(unittest.TestCase):
    def test_a_change_to_what_was_told_changes_no_later_answer(self):
        for deeds in (knits([1, 2, 1, 2, 4]), knits([1, 2]), moves([1, 2, 1]), []):
            kept = copy.deepcopy(passes(deeds))
            given = list(deeds)
            answer = passes(deeds)
            for part in answer:
                part.append(("knit", "f", 9, "f"))
                part.reverse()
            answer.append([])
            self.assertEqual(deeds, given)
            self.assertEqual(passes(deeds), kept)

    def test_a_later_change_to_the_deeds_changes_no_answer(self):
        for deeds in (knits([1, 2, 1, 2, 4]), knits([1, 2]), moves([1, 2, 1]), []):
            answer = passes(deeds)
            kept = copy.deepcopy(answer)
            deeds.reverse()
            deeds.append(("tuck", "f", 9, "f"))
            self.assertEqual(answer, kept)

    def test_no_two_lists_are_one(self):
        for deeds in (knits([1, 2, 1, 2, 4]), knits([1, 2]), []):
            found = lists_in(passes(deeds)) + lists_in(passes(deeds)) + [deeds]
            self.assertEqual(len({id(one) for one in found}), len(found))


if __name__ == "__main__":
    unittest.main()
