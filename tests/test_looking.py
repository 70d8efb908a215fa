import itertools
import unittest

from loopbed.looking import looked
from model import STITCHES, any_patterns, asked, good_patterns, lists_in, modelled


def pattern_of(many, *rows):
    return [("cast", many, "a")] + [("row", "b", stitches) for stitches in rows]


class GoodTest(unittest.TestCase):
    def check(self, widths, many, *rows):
        with self.subTest(many=many, rows=rows):
            answer = asked(looked, pattern_of(many, *rows))
            self.assertEqual(answer, ("good", widths))
            self.assertIs(type(answer), tuple)
            self.assertIs(type(answer[1]), list)
            self.assertTrue(all(type(width) is int for width in answer[1]))

    def test_the_cast_alone(self):
        for many in range(1, 17):
            self.check([many], many)

    def test_one_row_of_each_stitch(self):
        for stitch in "kpts":
            for many in range(1, 17):
                self.check([many, many], many, stitch * many)
        for stitch in "lr":
            for many in range(2, 17, 2):
                self.check([many, many // 2], many, stitch * (many // 2))
        self.check([1, 2], 1, "ko")
        self.check([1, 2], 1, "ok")
        self.check([1, 3], 1, "oko")
        self.check([3, 4], 3, "olok")

    def test_widths_follow_the_rows(self):
        self.check([4, 2, 1, 3, 3], 4, "lr", "l", "oso", "tks")
        self.check([16, 8, 16, 16], 16, "l" * 8, "ok" * 8, "p" * 16)
        self.check([8, 7], 8, "kptslro")
        self.check([1] + [1] * 12, 1, *"kpkskpsstttk")

    def test_sixteen_stitches_are_not_wide(self):
        self.check([16, 16], 16, "k" * 16)
        self.check([15, 16], 15, "k" * 15 + "o")
        self.check([1, 16], 1, "k" + "o" * 15)

    def test_four_loops_are_not_many(self):
        self.check([1, 1, 1, 1], 1, "t", "t", "t")
        for stitch in "kps":
            self.check([1, 1, 1, 1, 1], 1, "t", "t", "t", stitch)
        for stitch in "lr":
            self.check([2, 2, 1], 2, "tt", stitch)
            self.check([2, 2, 2, 1], 2, "ts", "ts", stitch)
            self.check([2, 2, 2, 1], 2, "st", "st", stitch)

    def test_what_takes_the_loops_leaves_one(self):
        for stitch in "kp":
            self.check([1] * 9, 1, "t", "t", "t", stitch, "t", "t", "t", stitch)
        for stitch in "lr":
            self.check([2, 2, 1, 1, 1, 1], 2, "tt", stitch, "t", "t", "t")
        self.check([1, 2, 2, 2, 2], 1, "so", "st", "st", "st")

    def test_what_is_told_is_the_askers_own(self):
        pattern = pattern_of(3, "kkk", "lk")
        first = looked(pattern)
        kept = list(first[1])
        first[1].append(99)
        self.assertEqual(looked(pattern), ("good", kept))
        self.assertFalse(any(one is other for one in lists_in(looked(pattern)) for other in lists_in(pattern)))
        second = looked(pattern)
        pattern.append(("row", "a", "kkkkk"))
        self.assertEqual(second, ("good", kept))


class FaultTest(unittest.TestCase):
    def check(self, fault, number, many, *rows):
        with self.subTest(many=many, rows=rows):
            answer = asked(looked, pattern_of(many, *rows))
            self.assertEqual(answer, (fault, number))
            self.assertIs(type(answer), tuple)
            self.assertIs(type(answer[1]), int)

    def test_wide(self):
        self.check("wide", 1, 16, "k" * 16 + "o")
        self.check("wide", 1, 1, "k" + "o" * 16)
        self.check("wide", 1, 1, "k" + "o" * 23)
        self.check("wide", 2, 16, "k" * 16, "o" + "k" * 16)
        self.check("wide", 12, 16, *(["k" * 16] * 11 + ["k" * 8 + "o" + "k" * 8]))

    def test_fit(self):
        for many in range(1, 17):
            if many < 16:
                self.check("fit", 1, many, "k" * (many + 1))
            if many > 1:
                self.check("fit", 1, many, "k" * (many - 1))
        self.check("fit", 1, 3, "ll")
        self.check("fit", 1, 3, "r")
        self.check("fit", 1, 1, "l")
        self.check("fit", 1, 1, "o")
        self.check("fit", 1, 2, "ook")
        self.check("fit", 2, 4, "ll", "kkkk")
        self.check("fit", 2, 2, "kok", "kk")
        self.check("fit", 12, 3, *(["kkk"] * 11 + ["kk"]))

    def test_many(self):
        self.check("many", 4, 1, "t", "t", "t", "t")
        self.check("many", 4, 3, "kkt", "kkt", "kkt", "kkt")
        self.check("many", 5, 1, "t", "t", "t", "s", "t")
        self.check("many", 12, 1, *("k" * 8 + "tttt"))
        for stitch in "lr":
            self.check("many", 4, 2, "ts", "ts", "ts", stitch)
            self.check("many", 4, 2, "st", "st", "st", stitch)
            self.check("many", 3, 2, "tt", "ts", stitch)
            self.check("many", 3, 2, "tt", "st", stitch)
            self.check("many", 3, 4, "stts", "stts", "k" + stitch + "k")

    def test_wide_ahead_of_fit_ahead_of_many(self):
        self.check("wide", 1, 3, "k" * 17)
        self.check("wide", 1, 3, "l" * 24)
        self.check("wide", 4, 1, "t", "t", "t", "t" + "o" * 16)
        self.check("wide", 4, 1, "t", "t", "t", "t" * 17)
        self.check("fit", 4, 1, "t", "t", "t", "tt")
        self.check("fit", 4, 2, "tt", "ts", "ts", "t")
        self.check("fit", 4, 2, "tt", "ts", "ts", "ls")

    def test_the_first_faulty_row_is_told(self):
        self.check("fit", 1, 2, "k", "k" * 17, "kk")
        self.check("fit", 2, 2, "kk", "k", "k" * 17)
        self.check("wide", 2, 2, "kk", "k" * 17, "k")
        self.check("many", 4, 1, "t", "t", "t", "t", "kk", "o" * 24)

    def test_beyond_the_bounds_nothing_else_is_a_fault(self):
        self.assertEqual(looked(pattern_of(20)), ("good", [20]))
        self.assertEqual(looked(pattern_of(0)), ("good", [0]))
        self.assertEqual(looked(pattern_of(0, "o")), ("good", [0, 1]))
        self.assertEqual(looked(pattern_of(18, "l" * 9)), ("good", [18, 9]))
        self.assertEqual(looked(pattern_of(17, "k" * 17)), ("wide", 1))
        self.assertEqual(looked(pattern_of(1, "o" * 30)), ("wide", 1))
        self.assertEqual(looked(pattern_of(2, *["kk"] * 15)), ("good", [2] * 16))
        self.assertEqual(looked(pattern_of(2, *(["kk"] * 14 + ["k"]))), ("fit", 15))


class ModelTest(unittest.TestCase):
    def test_every_two_short_rows(self):
        rows = ["".join(row) for long in (1, 2, 3) for row in itertools.product(STITCHES, repeat=long)]
        for many in (1, 2, 3):
            for first in rows:
                if modelled(pattern_of(many, first))[0][0] != "good":
                    self.assertEqual(looked(pattern_of(many, first)), modelled(pattern_of(many, first))[0])
                    continue
                for second in rows:
                    pattern = pattern_of(many, first, second)
                    self.assertEqual(looked(pattern), modelled(pattern)[0], pattern)

    def test_every_row_on_places_of_one_to_four_loops(self):
        for heights in itertools.product((1, 2, 3, 4), repeat=2):
            built = ["".join("t" if height > step else "s" for height in heights) for step in (1, 2, 3)]
            for long in (1, 2, 3):
                for row in itertools.product(STITCHES, repeat=long):
                    pattern = pattern_of(2, *built, "".join(row))
                    self.assertEqual(asked(looked, pattern), modelled(pattern)[0], pattern)

    def test_long_patterns(self):
        for pattern in good_patterns(4, 260):
            self.assertEqual(asked(looked, pattern), modelled(pattern)[0], pattern)
            self.assertEqual(looked(pattern)[0], "good")

    def test_patterns_that_may_not_fit(self):
        for pattern in any_patterns(5, 300):
            self.assertEqual(asked(looked, pattern), modelled(pattern)[0], pattern)

    def test_good_patterns_with_one_row_spoilt(self):
        for pattern in good_patterns(6, 130):
            for at in range(1, len(pattern)):
                for stitches in ("k" * 20, pattern[at][2] + "k", pattern[at][2][1:], "t" * len(pattern[at][2])):
                    spoilt = list(pattern)
                    spoilt[at] = ("row", "c", stitches or "o")
                    self.assertEqual(asked(looked, spoilt), modelled(spoilt)[0], spoilt)


if __name__ == "__main__":
    unittest.main()
