import copy
import itertools
import unittest

from loopbed.bed import Bed
from loopbed.errors import BedFault, LoopError, NoPattern, Unfit
from loopbed.making import made
from loopbed.telling import told
from model import STITCHES, ModelBed, any_patterns, asked, bed_state, good_patterns, lists_in, modelled, wide_patterns

LENGTHS = {"knit": [str, str, int, str], "tuck": [str, str, int, str], "move": [str, str, int, int]}


class MakingCase(unittest.TestCase):
    def check(self, pattern):
        """Told by the model, done by the bed and by a second way; the hooks are those that a bed has."""
        cloth, live = modelled(pattern)[1]
        deeds = asked(made, pattern)
        self.check_kinds(pattern, deeds)
        self.assertLessEqual(len(deeds), 16 + 400 * (len(pattern) - 1), pattern)
        model = ModelBed()
        for deed in deeds:
            self.assertIsNone(model.refusal(deed), (pattern, deed))
            model.act(deed)
        self.assertEqual(model.loops, cloth, pattern)
        self.assertEqual(len(model.hanging), sum(len(place) for place in live), pattern)
        for at, place in enumerate(live):
            self.assertEqual(model.on("f", at), place, pattern)
        return deeds

    def check_kinds(self, pattern, deeds):
        self.assertIs(type(deeds), list)
        for deed in deeds:
            self.assertIs(type(deed), tuple)
            self.assertEqual([type(part) for part in deed], LENGTHS[deed[0]], pattern)
            self.assertIn(deed[1], ("f", "b"))
            self.assertIn(deed[2], range(16), (pattern, deed))
            if deed[0] == "move":
                self.assertIn(deed[3], range(16), (pattern, deed))

    def check_on_bed(self, pattern):
        cloth, live = told(pattern)
        bed, second = Bed(), Bed()
        for deed in self.check(pattern):
            bed.act(deed)
        self.assertEqual(bed.cloth(), cloth, pattern)
        for at in range(16):
            self.assertEqual(bed.hook("f", at), live[at] if at < len(live) else [], (pattern, at))
            self.assertEqual(bed.hook("b", at), [], (pattern, at))
        self.assertEqual(bed.done(), made(pattern))
        self.assertEqual(bed_state(second), bed_state(Bed()))


def rows_of(many, *rows):
    return [("cast", many, "a")] + [("row", "bcdef"[nth % 5], stitches) for nth, stitches in enumerate(rows)]


class MadeTest(MakingCase):
    def test_the_cast_alone(self):
        for many in range(1, 17):
            for yarn in "abcdef":
                self.check_on_bed([("cast", many, yarn)])
        self.assertLessEqual(len(made([("cast", 16, "a")])), 16)

    def test_one_row_of_each_stitch(self):
        for many in range(1, 17):
            for stitch in "kpts":
                self.check_on_bed(rows_of(many, stitch * many))
        for many in range(1, 9):
            for stitch in "lr":
                self.check_on_bed(rows_of(2 * many, stitch * many))

    def test_each_stitch_at_each_place_of_a_row_from_either_end(self):
        for many in (2, 3, 15, 16):
            for ahead in ([], ["k" * many]):
                for at in range(many):
                    for stitch in "kptslr":
                        taken = 2 if stitch in "lr" else 1
                        if at + taken <= many:
                            for rest in "kps":
                                row = rest * at + stitch + rest * (many - at - taken)
                                self.check_on_bed(rows_of(many, *ahead, row))

    def test_an_o_at_the_start_the_midst_and_the_end(self):
        for many in range(1, 16):
            for ahead in ([], ["k" * many]):
                for at in range(many + 1):
                    for rest in "kpts":
                        self.check_on_bed(rows_of(many, *ahead, rest * at + "o" + rest * (many - at)))
        for at in range(2):
            for many in range(1, 16):
                self.check_on_bed(rows_of(1, "s" * at + "o" * many + "s" * (1 - at)))

    def test_as_far_as_places_go(self):
        for ahead in ([], ["k"]):
            for stitch in "kpts":
                for row in ("o" * 15 + stitch, stitch + "o" * 15, "o" * 7 + stitch + "o" * 8):
                    self.check_on_bed(rows_of(1, *ahead, row))
        for pair in "lr":
            for grown in ("o" * 8 + "k" * 8, "k" * 8 + "o" * 8, "ok" * 8, "ko" * 8, "o" * 4 + "p" * 8 + "o" * 4):
                self.check_on_bed(rows_of(16, pair * 8, grown, pair * 8, grown))
            for row in (pair * 7 + "kk", "kk" + pair * 7, pair * 3 + "kkkk" + pair * 3, "k" + pair * 7 + "k",
                        pair * 8 + "o" * 8, "o" * 8 + pair * 8, pair * 4 + "o" * 8 + pair * 4, ("o" + pair) * 8,
                        (pair + "o") * 8, "oooo" + pair * 8 + "oooo", pair * 4 + "o" * 4 + "s" * 8):
                self.check_on_bed(rows_of(16, row))
                self.check_on_bed(rows_of(16, "t" * 16, "s" * 16, row.replace("k", "p")))

    def test_several_loops_at_a_place(self):
        for heights in itertools.product((1, 2, 3, 4), repeat=2):
            built = ["".join("t" if height > step else "s" for height in heights) for step in (1, 2, 3)]
            for row in ("kk", "pp", "kp", "pk", "l", "r", "ss", "oss", "sos", "okp", "kop", "olo", "oro", "st", "ts"):
                for ahead in (built, built + ["ss"]):
                    pattern = rows_of(2, *ahead, row)
                    if modelled(pattern)[1] is not None:
                        self.check_on_bed(pattern)
                        self.check_on_bed(pattern + [("row", "a", "o" + "p" * modelled(pattern)[0][1][-1])])

    def test_rows_that_grow_and_rows_that_shrink(self):
        self.check_on_bed(rows_of(1, *["o" + "k" * many for many in range(1, 13)]))
        self.check_on_bed(rows_of(1, *["p" * many + "o" for many in range(1, 13)]))
        self.check_on_bed(rows_of(16, *["l" + "k" * (many - 2) for many in range(16, 4, -1)]))
        self.check_on_bed(rows_of(16, *["s" * (many - 2) + "r" for many in range(16, 4, -1)]))
        self.check_on_bed(rows_of(16, "l" * 8, "r" * 4, "l" * 2, "r", "o" * 15 + "p", "r" * 8, "ok" * 8))
        for stitch in "kpst":
            self.check_on_bed(rows_of(16, *[stitch * 16 if stitch != "t" else "tkk" * 5 + "k"] * 3))

    def test_twelve_rows_of_all_sixteen_places(self):
        for stitch in "kps":
            self.check_on_bed(rows_of(16, *[stitch * 16] * 12))
        self.check_on_bed(rows_of(16, *["l" * 8, "op" * 8] * 6))
        self.check_on_bed(rows_of(16, *["o" * 8 + "r" * 8] * 12))
        self.check_on_bed(rows_of(16, *["l" * 8 + "o" * 8, "o" * 8 + "r" * 8] * 6))

    def test_every_two_short_rows(self):
        rows = ["".join(row) for long in (1, 2, 3) for row in itertools.product(STITCHES, repeat=long)]
        for many in (1, 2, 3, 4):
            for first in rows:
                if modelled(rows_of(many, first))[1] is None:
                    continue
                for second in rows:
                    if modelled(rows_of(many, first, second))[1] is not None:
                        self.check(rows_of(many, first, second))

    def test_long_patterns(self):
        for pattern in good_patterns(31, 195):
            self.check_on_bed(pattern)

    def test_wide_patterns(self):
        for pattern in wide_patterns(32, 180):
            self.check_on_bed(pattern)

    def test_beyond_the_bounds_nothing_is_refused(self):
        for pattern in ([("cast", 20, "a")], [("cast", 0, "a")], rows_of(0, "o"), rows_of(0, "o", "p"),
                        rows_of(18, "l" * 9), rows_of(18, "l" * 9, "o" * 7 + "p" * 9),
                        rows_of(20, "r" * 5 + "pl" + "r" * 3 + "k"), rows_of(3, *["kpk"] * 15)):
            bed = Bed()
            for deed in asked(made, pattern):
                bed.act(deed)
            cloth, live = told(pattern)
            self.assertEqual(bed.cloth(), cloth)
            for at in range(24):
                self.assertEqual(bed.hook("f", at), live[at] if at < len(live) else [])
                self.assertEqual(bed.hook("b", at), [])


class OwnTest(MakingCase):
    def test_a_change_to_what_was_made_changes_no_later_answer(self):
        for pattern in good_patterns(33, 26):
            kept = copy.deepcopy(made(pattern))
            told_deeds = made(pattern)
            told_deeds.reverse()
            told_deeds.append(("knit", "f", 0, "a"))
            self.assertEqual(made(pattern), kept)
            found = lists_in(made(pattern)) + lists_in(made(pattern)) + lists_in(pattern)
            self.assertEqual(len({id(one) for one in found}), len(found))

    def test_a_later_change_to_the_pattern_changes_no_answer(self):
        for pattern in good_patterns(34, 26):
            deeds = made(pattern)
            kept = copy.deepcopy(deeds)
            pattern[0] = ("cast", 3, "f")
            pattern.append(("row", "a", "k"))
            self.assertEqual(deeds, kept)


class RefusedTest(MakingCase):
    def check_unfit(self, pattern):
        with self.subTest(pattern):
            with self.assertRaises(Unfit) as taken:
                asked(made, pattern)
            self.assertIs(type(taken.exception), Unfit)
            self.assertIsInstance(taken.exception, LoopError)
            self.assertIsInstance(taken.exception, ValueError)
            self.assertNotIsInstance(taken.exception, (NoPattern, BedFault))

    def test_each_fault_in_the_first_a_later_and_the_last_row(self):
        self.check_unfit(rows_of(16, "k" * 16 + "o"))
        self.check_unfit(rows_of(1, "k" + "o" * 16))
        self.check_unfit(rows_of(3, "kk"))
        self.check_unfit(rows_of(3, "kkkk"))
        self.check_unfit(rows_of(1, "l"))
        self.check_unfit(rows_of(1, "t", "t", "t", "t"))
        for stitch in "lr":
            self.check_unfit(rows_of(2, "tt", "ts", stitch))
            self.check_unfit(rows_of(2, "tt", "st", stitch))
        for behind in ([], ["kk"], ["kk"] * 9):
            self.check_unfit(rows_of(2, "pp", "pp" + "o" * 15, *behind))
            self.check_unfit(rows_of(2, "pp", "k", *behind))
            self.check_unfit(rows_of(2, "pp", "lk", *behind))
            self.check_unfit(rows_of(2, "ts", "ts", "ts", "ts", *behind))
        self.check_unfit(rows_of(2, *["kk"] * 11, "kkk"))
        self.check_unfit(rows_of(2, *["kk"] * 11, "k" * 17))
        self.check_unfit(rows_of(2, *["kk"] * 8, *["kt"] * 4))

    def test_every_pattern_that_is_not_good(self):
        for pattern in any_patterns(35, 300):
            if modelled(pattern)[1] is None:
                self.check_unfit(pattern)
            else:
                self.check_on_bed(pattern)


if __name__ == "__main__":
    unittest.main()
