import copy
import itertools
import unittest

from loopbed.errors import BedFault, LoopError, NoPattern, Unfit
from loopbed.telling import told
from model import STITCHES, any_patterns, asked, good_patterns, lists_in, modelled


def cast_loops(many, yarn="a"):
    return [(yarn, "t", ())] * many


class ToldTest(unittest.TestCase):
    def check(self, pattern, new, live):
        """`new` are the loops behind those of the cast."""
        with self.subTest(pattern):
            answer = asked(told, pattern)
            self.assertEqual(answer, (cast_loops(pattern[0][1], pattern[0][2]) + new, live))
            self.check_kinds(answer)

    def check_kinds(self, answer):
        self.assertIs(type(answer), tuple)
        cloth, live = answer
        self.assertIs(type(cloth), list)
        self.assertIs(type(live), list)
        for loop in cloth:
            self.assertEqual([type(part) for part in loop], [str, str, tuple])
            self.assertIs(type(loop), tuple)
            self.assertTrue(all(type(number) is int for number in loop[2]))
        for place in live:
            self.assertIs(type(place), list)
            self.assertTrue(all(type(number) is int for number in place))

    def test_the_cast_alone(self):
        for many in range(1, 17):
            for yarn in "abcdef":
                self.check([("cast", many, yarn)], [], [[number] for number in range(many)])

    def test_one_row_of_each_stitch(self):
        cast = ("cast", 2, "a")
        self.check([cast, ("row", "b", "kk")], [("b", "k", (1,)), ("b", "k", (0,))], [[3], [2]])
        self.check([cast, ("row", "c", "pp")], [("c", "p", (1,)), ("c", "p", (0,))], [[3], [2]])
        self.check([cast, ("row", "d", "tt")], [("d", "t", ()), ("d", "t", ())], [[0, 3], [1, 2]])
        self.check([cast, ("row", "e", "ss")], [], [[0], [1]])
        self.check([cast, ("row", "f", "l")], [("f", "k", (0, 1))], [[2]])
        self.check([cast, ("row", "f", "r")], [("f", "k", (1, 0))], [[2]])
        self.check([cast, ("row", "b", "oss")], [("b", "t", ())], [[2], [0], [1]])
        self.check([cast, ("row", "b", "sos")], [("b", "t", ())], [[0], [2], [1]])
        self.check([cast, ("row", "b", "sso")], [("b", "t", ())], [[0], [1], [2]])

    def test_every_stitch_in_one_row_from_the_right(self):
        self.check(
            [("cast", 8, "a"), ("row", "b", "kptslro")],
            [("b", "t", ()), ("b", "k", (7, 6)), ("b", "k", (4, 5)), ("b", "t", ()), ("b", "p", (1,)), ("b", "k", (0,))],
            [[13], [12], [2, 11], [3], [10], [9], [8]],
        )

    def test_every_stitch_in_one_row_from_the_left(self):
        self.check(
            [("cast", 8, "a"), ("row", "c", "ssssssss"), ("row", "b", "kptslro")],
            [("b", "k", (0,)), ("b", "p", (1,)), ("b", "t", ()), ("b", "k", (4, 5)), ("b", "k", (7, 6)), ("b", "t", ())],
            [[8], [9], [2, 10], [3], [11], [12], [13]],
        )

    def test_rows_from_either_end_by_turns(self):
        rows = [("row", "b", "kk"), ("row", "c", "kk"), ("row", "d", "kk"), ("row", "e", "kk")]
        new = [("b", "k", (1,)), ("b", "k", (0,)), ("c", "k", (3,)), ("c", "k", (2,)),
               ("d", "k", (5,)), ("d", "k", (4,)), ("e", "k", (7,)), ("e", "k", (6,))]
        live = [[[0], [1]], [[3], [2]], [[4], [5]], [[7], [6]], [[8], [9]]]
        for many in range(5):
            self.check([("cast", 2, "a")] + rows[:many], new[:2 * many], live[many])

    def test_a_row_without_new_loops_takes_its_turn(self):
        self.check(
            [("cast", 2, "a"), ("row", "b", "ss"), ("row", "b", "oss")],
            [("b", "t", ())], [[2], [0], [1]],
        )
        self.check(
            [("cast", 2, "a"), ("row", "b", "ss"), ("row", "b", "kp")],
            [("b", "k", (0,)), ("b", "p", (1,))], [[2], [3]],
        )

    def test_several_loops_at_a_place_are_taken_in_their_order(self):
        ahead = [("cast", 2, "a"), ("row", "b", "tt"), ("row", "c", "ss")]
        made = [("b", "t", ()), ("b", "t", ())]
        self.check(ahead, made, [[0, 3], [1, 2]])
        for stitch, way in (("k", "k"), ("p", "p")):
            self.check(ahead + [("row", "d", stitch * 2)],
                       made + [("d", way, (1, 2)), ("d", way, (0, 3))], [[5], [4]])
        self.check(ahead + [("row", "d", "l")], made + [("d", "k", (0, 3, 1, 2))], [[4]])
        self.check(ahead + [("row", "d", "r")], made + [("d", "k", (1, 2, 0, 3))], [[4]])

    def test_four_loops_at_a_place(self):
        ahead = [("cast", 1, "a"), ("row", "b", "t"), ("row", "c", "t"), ("row", "d", "t")]
        made = [("b", "t", ()), ("c", "t", ()), ("d", "t", ())]
        self.check(ahead, made, [[0, 1, 2, 3]])
        self.check(ahead + [("row", "e", "s")], made, [[0, 1, 2, 3]])
        self.check(ahead + [("row", "e", "k")], made + [("e", "k", (0, 1, 2, 3))], [[4]])
        self.check(ahead + [("row", "e", "p")], made + [("e", "p", (0, 1, 2, 3))], [[4]])

    def test_every_two_short_rows(self):
        rows = ["".join(row) for long in (1, 2, 3) for row in itertools.product(STITCHES, repeat=long)]
        for many in (1, 2, 3, 4):
            for first in rows:
                ahead = [("cast", many, "a"), ("row", "b", first)]
                if modelled(ahead)[1] is None:
                    continue
                for second in rows:
                    pattern = ahead + [("row", "c", second)]
                    if modelled(pattern)[1] is not None:
                        self.assertEqual(told(pattern), modelled(pattern)[1], pattern)

    def test_long_patterns_also_behind_others(self):
        patterns = good_patterns(7, 260)
        answers = [asked(told, pattern) for pattern in patterns]
        for pattern, answer in zip(patterns, answers):
            self.assertEqual(answer, modelled(pattern)[1], pattern)
            self.check_kinds(answer)
        for pattern, answer in reversed(list(zip(patterns, answers))):
            self.assertEqual(told(pattern), answer)

    def test_beyond_the_bounds_nothing_is_refused(self):
        for pattern in ([("cast", 20, "a")], [("cast", 0, "a")], [("cast", 0, "a"), ("row", "b", "o")],
                        [("cast", 18, "a"), ("row", "b", "l" * 9)], [("cast", 2, "a")] + [("row", "b", "kp")] * 15):
            self.assertEqual(asked(told, pattern), modelled(pattern)[1])


class OwnTest(unittest.TestCase):
    def test_no_two_lists_are_one(self):
        for pattern in good_patterns(8, 130):
            found = lists_in(told(pattern)) + lists_in(told(pattern)) + lists_in(pattern)
            self.assertEqual(len({id(one) for one in found}), len(found), pattern)

    def test_a_change_to_what_was_told_changes_nothing_else(self):
        for pattern in good_patterns(9, 60):
            kept = copy.deepcopy(told(pattern))
            for at in range(len(kept[1])):
                answer = told(pattern)
                answer[1][at].append(99)
                for other, place in enumerate(answer[1]):
                    self.assertEqual(place, kept[1][other] + [99] * (other == at))
                self.assertEqual(answer[0], kept[0])
                answer[0].clear()
                answer[1].clear()
                self.assertEqual(told(pattern), kept)

    def test_a_later_change_to_the_pattern_changes_no_answer(self):
        for pattern in good_patterns(10, 60):
            before = list(pattern)
            answer = told(pattern)
            kept = copy.deepcopy(answer)
            pattern[0] = ("cast", 3, "f")
            pattern.append(("row", "a", "k"))
            self.assertEqual(answer, kept)
            self.assertEqual(told(before), kept)


class RefusedTest(unittest.TestCase):
    def check(self, pattern):
        good = [("cast", 2, "a"), ("row", "b", "kp")]
        with self.subTest(pattern):
            with self.assertRaises(Unfit) as taken:
                asked(told, pattern)
            self.assertIsInstance(taken.exception, LoopError)
            self.assertIsInstance(taken.exception, ValueError)
            self.assertNotIsInstance(taken.exception, (NoPattern, BedFault))
            self.assertEqual(told(good), modelled(good)[1])

    def test_wide(self):
        self.check([("cast", 16, "a"), ("row", "b", "k" * 16 + "o")])
        self.check([("cast", 1, "a"), ("row", "b", "k"), ("row", "b", "k" + "o" * 16)])
        self.check([("cast", 17, "a"), ("row", "b", "k" * 17)])

    def test_fit(self):
        self.check([("cast", 2, "a"), ("row", "b", "k")])
        self.check([("cast", 2, "a"), ("row", "b", "kkk")])
        self.check([("cast", 1, "a"), ("row", "b", "l")])
        self.check([("cast", 2, "a"), ("row", "b", "kk"), ("row", "b", "kkk")])
        self.check([("cast", 2, "a"), ("row", "b", "kkk"), ("row", "b", "kk")])

    def test_many(self):
        self.check([("cast", 1, "a")] + [("row", "b", "t")] * 4)
        self.check([("cast", 1, "a")] + [("row", "b", "t")] * 4 + [("row", "b", "k")])
        for stitch in "lr":
            self.check([("cast", 2, "a"), ("row", "b", "tt"), ("row", "b", "ts"), ("row", "b", stitch)])
            self.check([("cast", 2, "a"), ("row", "b", "tt"), ("row", "b", "st"), ("row", "b", stitch)])

    def test_every_pattern_that_is_not_good(self):
        for pattern in any_patterns(11, 300):
            if modelled(pattern)[1] is None:
                self.check(pattern)
            else:
                self.assertEqual(told(pattern), modelled(pattern)[1])


if __name__ == "__main__":
    unittest.main()
