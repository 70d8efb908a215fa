import random
import unittest

from loopbed import errors
from loopbed.bed import Bed
from model import ModelBed, asked, bed_state, drawn_deed, drawn_hooks, lists_in

HOOKS = range(16)
OTHER = {"f": "b", "b": "f"}
WAY = {"f": "k", "b": "p"}
NEW = ({(row, at): [] for row in "fb" for at in range(-4, 20)}, [], [])


class BedCase(unittest.TestCase):
    def check_refused(self, bed, deed, name):
        """Refused twice, with just this class, and nothing changed by it."""
        before = bed_state(bed)
        for _ in range(2):
            with self.subTest(deed=deed, done=bed.done()):
                with self.assertRaises(ValueError) as taken:
                    asked(bed.act, deed)
                self.check_class(taken.exception, name)
                self.assertEqual(bed_state(bed), before)

    def check_class(self, error, name):
        self.assertIs(type(error), getattr(errors, name))
        self.assertIsInstance(error, errors.BedFault)
        self.assertIsInstance(error, errors.LoopError)
        self.assertIsInstance(error, ValueError)
        for other in {"Empty", "Overfull", "TooFar", "NothingDone", "NoPattern", "Unfit"} - {name}:
            self.assertNotIsInstance(error, getattr(errors, other))

    def check_number(self, told, number):
        self.assertEqual(told, number)
        self.assertIs(type(told), int)

    def check_ripped_bare(self, bed, model):
        while model.deeds:
            self.assertEqual(bed.rip(), model.rip())
            self.assertEqual(bed_state(bed), model.state())

    def check_bears(self, bed, bears):
        """What is not named bears nothing."""
        for row in "fb":
            for at in HOOKS:
                self.assertEqual(bed.hook(row, at), bears.get((row, at), []), (row, at, bed.done()))


class KnitAndTuckTest(BedCase):
    def test_a_new_bed(self):
        bed = Bed()
        for row in "fb":
            for at in HOOKS:
                self.assertEqual(bed.hook(row, at), [])
        self.assertEqual(bed.cloth(), [])
        self.assertEqual(bed.done(), [])
        for told in (bed.hook("f", 0), bed.cloth(), bed.done()):
            self.assertIs(type(told), list)

    def test_tucks_then_a_knit(self):
        for row in "fb":
            for at in HOOKS:
                for many in range(1, 5):
                    bed = Bed()
                    for number in range(many):
                        self.check_number(asked(bed.act, ("tuck", row, at, "abcd"[number])), number)
                        self.check_bears(bed, {(row, at): list(range(number + 1))})
                    loops = [(yarn, "t", ()) for yarn in "abcd"[:many]]
                    self.assertEqual(bed.cloth(), loops)
                    self.check_number(asked(bed.act, ("knit", row, at, "f")), many)
                    self.assertEqual(bed.cloth(), loops + [("f", WAY[row], tuple(range(many)))])
                    self.check_bears(bed, {(row, at): [many]})
                    self.assertEqual(bed.done()[-1], ("knit", row, at, "f"))
                    self.assertEqual(len(bed.done()), many + 1)

    def test_kinds_in_the_cloth(self):
        bed = Bed()
        for deed in (("tuck", "f", 3, "a"), ("tuck", "f", 3, "b"), ("knit", "f", 3, "c"), ("move", "f", 3, 4),
                     ("knit", "b", 4, "d")):
            bed.act(deed)
        self.assertEqual(bed.cloth(), [("a", "t", ()), ("b", "t", ()), ("c", "k", (0, 1)), ("d", "p", (2,))])
        for loop in bed.cloth():
            self.assertEqual([type(part) for part in loop], [str, str, tuple])
            self.assertIs(type(loop), tuple)
        self.assertTrue(all(type(deed) is tuple for deed in bed.done()))

    def test_neighbours_stay(self):
        for row in "fb":
            for at in HOOKS:
                bed = Bed()
                bears = {}
                for number, near in enumerate([near for near in (at - 1, at, at + 1) if near in HOOKS]):
                    for side in "fb":
                        bears[(side, near)] = [bed.act(("tuck", side, near, "a"))]
                bears[(row, at)] = [bed.act(("knit", row, at, "b"))]
                self.check_bears(bed, bears)
                bears[(row, at)].append(bed.act(("tuck", row, at, "b")))
                self.check_bears(bed, bears)

    def test_a_knit_behind_a_knit(self):
        bed = Bed()
        bed.act(("tuck", "b", 7, "a"))
        for number in range(1, 30):
            self.check_number(bed.act(("knit", "b", 7, "b")), number)
            self.assertEqual(bed.cloth()[-1], ("b", "p", (number - 1,)))
            self.assertEqual(bed.hook("b", 7), [number])

    def test_a_knit_of_a_bare_hook_is_empty(self):
        for row in "fb":
            for at in HOOKS:
                bed = Bed()
                self.check_refused(bed, ("knit", row, at, "a"), "Empty")
                self.assertEqual(bed_state(bed), NEW)
                bed.act(("tuck", OTHER[row], at, "a"))
                self.check_refused(bed, ("knit", row, at, "a"), "Empty")
                bed.act(("tuck", row, at, "a"))
                bed.act(("move", row, at, at))
                self.check_refused(bed, ("knit", row, at, "a"), "Empty")

    def test_a_fifth_tuck_is_overfull(self):
        for row in "fb":
            for at in HOOKS:
                bed = Bed()
                for _ in range(4):
                    bed.act(("tuck", row, at, "a"))
                self.check_refused(bed, ("tuck", row, at, "b"), "Overfull")
                self.check_number(bed.act(("tuck", OTHER[row], at, "b")), 4)
                self.check_number(bed.act(("knit", row, at, "b")), 5)
                self.check_number(bed.act(("tuck", row, at, "b")), 6)
                self.assertEqual(bed.hook(row, at), [5, 6])

    def test_numbers_beyond_the_ends_are_hooks_of_their_own(self):
        for at in (-2, -1, 16, 17, 19):
            for row in "fb":
                bed = Bed()
                self.check_number(bed.act(("tuck", row, at, "a")), 0)
                self.check_number(bed.act(("knit", row, at, "a")), 1)
                self.check_bears(bed, {})
                self.assertEqual(bed.hook(row, at), [1])
                self.assertIsNone(bed.act(("move", row, at, at + 1)))
                self.assertEqual(bed.hook(OTHER[row], at + 1), [1])
                self.check_refused(bed, ("knit", row, at, "a"), "Empty")
                self.check_refused(bed, ("move", OTHER[row], at + 1, at + 4), "TooFar")


class MoveTest(BedCase):
    def bed_with(self, bears):
        bed = Bed()
        for spot, many in bears:
            for _ in range(many):
                bed.act(("tuck", spot[0], spot[1], "a"))
        return bed

    def test_moves_of_every_distance(self):
        for row in "fb":
            for at in HOOKS:
                for to in HOOKS:
                    for many in (1, 4):
                        bed = self.bed_with([((row, at), many)])
                        if abs(at - to) > 2:
                            self.check_refused(bed, ("move", row, at, to), "TooFar")
                            self.check_bears(bed, {(row, at): list(range(many))})
                            continue
                        cloth = bed.cloth()
                        self.assertIsNone(asked(bed.act, ("move", row, at, to)))
                        self.check_bears(bed, {(OTHER[row], to): list(range(many))})
                        self.assertEqual(bed.cloth(), cloth)
                        self.assertEqual(bed.done()[many:], [("move", row, at, to)])

    def test_loops_hang_behind_those_that_were_there(self):
        for row in "fb":
            for at, to in ((0, 0), (0, 2), (2, 0), (15, 15), (13, 15), (15, 14), (6, 7), (7, 6), (8, 10)):
                for here in range(5):
                    for there in range(5):
                        for first in (0, 1):
                            self.check_meeting(row, at, to, here, there, first)

    def check_meeting(self, row, at, to, here, there, first):
        """Elder loops may lie on either hook: not their age tells the order."""
        spots = [((row, at), here), ((OTHER[row], to), there)]
        bed = self.bed_with(spots[::-1] if first else spots)
        moved = bed.hook(row, at)
        stayed = bed.hook(OTHER[row], to)
        self.assertEqual((len(moved), len(stayed)), (here, there))
        before = bed.cloth()
        deed = ("move", row, at, to)
        if here == 0:
            self.check_refused(bed, deed, "Empty")
        elif here + there > 4:
            self.check_refused(bed, deed, "Overfull")
        else:
            self.assertIsNone(bed.act(deed))
            self.check_bears(bed, {(OTHER[row], to): stayed + moved})
            self.assertEqual(bed.cloth(), before)

    def test_the_same_row_is_left_alone(self):
        bed = self.bed_with([(("f", 5), 2), (("f", 6), 3)])
        bed.act(("move", "f", 5, 6))
        self.check_bears(bed, {("b", 6): [0, 1], ("f", 6): [2, 3, 4]})
        self.check_refused(bed, ("move", "b", 6, 6), "Overfull")
        bed.act(("move", "b", 6, 8))
        self.check_bears(bed, {("f", 8): [0, 1], ("f", 6): [2, 3, 4]})

    def test_too_far_ahead_of_empty_and_overfull(self):
        for row in "fb":
            for at, to in ((0, 3), (3, 0), (0, 15), (15, 0), (15, 12), (12, 15), (5, 9), (9, 2)):
                for here in (0, 1, 4):
                    for there in (0, 1, 4):
                        bed = self.bed_with([((row, at), here), ((OTHER[row], to), there)])
                        self.check_refused(bed, ("move", row, at, to), "TooFar")

    def test_empty_ahead_of_overfull(self):
        for row in "fb":
            for to in range(5, 10):
                bed = self.bed_with([((OTHER[row], to), 4)])
                self.check_refused(bed, ("move", row, 7, to), "Empty")

    def test_knit_and_tuck_of_moved_loops(self):
        bed = self.bed_with([(("f", 0), 1), (("f", 1), 1)])
        bed.act(("move", "f", 1, 0))
        bed.act(("move", "f", 0, 0))
        self.assertEqual(bed.hook("b", 0), [1, 0])
        self.assertEqual(bed.act(("tuck", "b", 0, "c")), 2)
        self.assertEqual(bed.act(("knit", "b", 0, "d")), 3)
        self.assertEqual(bed.cloth()[3], ("d", "p", (1, 0, 2)))


class RipTest(BedCase):
    def check_nothing_done(self, bed):
        for _ in range(2):
            with self.assertRaises(errors.BedFault) as taken:
                bed.rip()
            self.check_class(taken.exception, "NothingDone")
            self.assertEqual(bed_state(bed), NEW)

    def check_ripped(self, bed, states):
        """Every deed back one by one; `states` are those ahead of each."""
        while states:
            last = bed.done()[-1]
            told = bed.rip()
            self.assertEqual(told, last)
            self.assertIs(type(told), tuple)
            self.assertEqual(bed_state(bed), states.pop())

    def test_a_new_bed_has_nothing_done(self):
        self.check_nothing_done(Bed())

    def test_one_deed_of_each_kind(self):
        deeds = [("tuck", "f", 0, "a"), ("tuck", "f", 0, "b"), ("knit", "f", 0, "c"), ("tuck", "b", 2, "d"),
                 ("move", "f", 0, 2), ("knit", "b", 2, "e"), ("move", "b", 2, 0), ("tuck", "f", 0, "f")]
        bed = Bed()
        states = []
        for deed in deeds:
            states.append(bed_state(bed))
            bed.act(deed)
        self.assertEqual(bed.done(), deeds)
        self.assertEqual(bed.cloth()[-2:], [("e", "p", (3, 2)), ("f", "t", ())])
        self.check_ripped(bed, states)
        self.check_nothing_done(bed)
        self.check_number(bed.act(deeds[0]), 0)
        self.assertEqual(bed_state(bed)[1:], ([("a", "t", ())], [deeds[0]]))

    def test_a_move_onto_others_is_parted_again(self):
        bed = Bed()
        for deed in (("tuck", "f", 4, "a"), ("tuck", "b", 5, "a"), ("tuck", "f", 4, "a"), ("tuck", "b", 5, "a")):
            bed.act(deed)
        before = bed_state(bed)
        bed.act(("move", "f", 4, 5))
        self.assertEqual(bed.hook("b", 5), [1, 3, 0, 2])
        self.assertEqual(bed.rip(), ("move", "f", 4, 5))
        self.assertEqual(bed_state(bed), before)
        bed.act(("move", "b", 5, 4))
        self.assertEqual(bed.hook("f", 4), [0, 2, 1, 3])

    def test_a_refused_deed_is_not_the_last_one(self):
        bed = Bed()
        bed.act(("tuck", "f", 1, "a"))
        for deed, name in ((("knit", "f", 2, "a"), "Empty"), (("move", "f", 1, 4), "TooFar")):
            self.check_refused(bed, deed, name)
        self.assertEqual(bed.rip(), ("tuck", "f", 1, "a"))
        self.check_nothing_done(bed)

    def test_nothing_done_is_taken_by_bed_fault_but_not_by_empty(self):
        for kin in (errors.BedFault, errors.LoopError, ValueError, errors.NothingDone):
            with self.assertRaises(kin):
                Bed().rip()
        with self.assertRaises(errors.NothingDone):
            try:
                Bed().rip()
            except errors.Empty:
                self.fail("taken by Empty")


class DrawnTest(BedCase):
    def test_drawn_deeds_against_a_second_way(self):
        rng = random.Random(21)
        refused = done = 0
        for _ in range(400):
            bed, model = Bed(), ModelBed()
            hooks = drawn_hooks(rng)
            for _ in range(rng.randrange(41)):
                deed = drawn_deed(rng, hooks)
                name = model.refusal(deed)
                if name is not None:
                    refused += 1
                    self.check_refused(bed, deed, name)
                else:
                    done += 1
                    self.assertEqual(asked(bed.act, deed), model.act(deed))
                self.assertEqual(bed_state(bed), model.state())
        self.assertGreater(refused, 1000)
        self.assertGreater(done, 1000)

    def test_drawn_deeds_and_rippings(self):
        rng = random.Random(22)
        for _ in range(200):
            bed, model = Bed(), ModelBed()
            hooks = drawn_hooks(rng)
            for _ in range(60):
                deed = drawn_deed(rng, hooks)
                if model.deeds and rng.randrange(3) == 0:
                    self.assertEqual(bed.rip(), model.rip())
                elif model.refusal(deed) is None:
                    self.assertEqual(bed.act(deed), model.act(deed))
                self.assertEqual(bed_state(bed), model.state())
            self.check_ripped_bare(bed, model)
            with self.assertRaises(errors.NothingDone):
                bed.rip()
            self.assertEqual(bed_state(bed), NEW)
            self.assertEqual(bed.act(("tuck", "b", 3, "e")), 0)

    def test_two_beds_have_nothing_in_common(self):
        rng = random.Random(23)
        for _ in range(60):
            pairs = [(Bed(), ModelBed()), (Bed(), ModelBed())]
            hooks = drawn_hooks(rng)
            for _ in range(60):
                bed, model = rng.choice(pairs)
                deed = drawn_deed(rng, hooks)
                if model.deeds and rng.randrange(5) == 0:
                    self.assertEqual(bed.rip(), model.rip())
                elif model.refusal(deed) is None:
                    self.assertEqual(bed.act(deed), model.act(deed))
                for bed, model in pairs:
                    self.assertEqual(bed_state(bed), model.state())
            self.assertEqual(bed_state(Bed()), NEW)

    def test_many_deeds_and_back(self):
        bed = Bed()
        bed.act(("tuck", "f", 0, "a"))
        for number in range(1, 3000):
            bed.act(("knit", "f", 0, "b"))
        self.assertEqual(len(bed.cloth()), 3000)
        for number in range(3000):
            bed.rip()
        self.assertEqual(bed_state(bed), NEW)


class OwnTest(BedCase):
    def all_told(self, bed):
        return [bed.hook(row, at) for row in "fb" for at in HOOKS] + [bed.cloth(), bed.done()]

    def test_a_change_to_what_was_told_changes_nothing(self):
        rng = random.Random(24)
        for _ in range(60):
            bed, model = Bed(), ModelBed()
            hooks = drawn_hooks(rng)
            for _ in range(40):
                deed = drawn_deed(rng, hooks)
                if model.refusal(deed) is None:
                    bed.act(deed)
                    model.act(deed)
                for told in self.all_told(bed):
                    rng.choice((told.clear, told.reverse, lambda: told.append(99), lambda: told.insert(0, 98)))()
                self.assertEqual(bed_state(bed), model.state())
            self.check_ripped_bare(bed, model)

    def test_what_was_told_stays_behind_later_deeds(self):
        bed = Bed()
        bed.act(("tuck", "f", 2, "a"))
        told = bed_state(bed)
        kept = ({spot: list(loops) for spot, loops in told[0].items()}, list(told[1]), list(told[2]))
        bed.act(("tuck", "f", 2, "b"))
        bed.act(("move", "f", 2, 3))
        self.assertEqual(told, kept)
        bed.rip()
        bed.rip()
        bed.rip()
        self.assertEqual(told, kept)

    def test_no_two_lists_are_one(self):
        bed = Bed()
        for at in (0, 3, 15):
            bed.act(("tuck", "f", at, "a"))
            bed.act(("tuck", "b", at, "b"))
            bed.act(("knit", "b", at, "c"))
        found = lists_in(self.all_told(bed) + self.all_told(bed))
        self.assertEqual(len({id(one) for one in found}), len(found))


if __name__ == "__main__":
    unittest.main()
