import random
import unittest

from loopbed.bed import Bed
from loopbed.cloth import holders, spent
from loopbed.telling import told
from model import YARNS, ModelBed, asked, drawn_deed, drawn_hooks, good_patterns, lists_in, wide_patterns


def bed_cloths(seed, many):
    rng = random.Random(seed)
    for _ in range(many):
        bed, model = Bed(), ModelBed()
        hooks = drawn_hooks(rng)
        for _ in range(rng.randrange(60)):
            deed = drawn_deed(rng, hooks)
            if model.refusal(deed) is None:
                model.act(deed)
                bed.act(deed)
        yield bed.cloth()


def cloths():
    return [told(pattern)[0] for pattern in good_patterns(51, 65) + wide_patterns(52, 36)] + list(bed_cloths(53, 60))


class HoldersTest(unittest.TestCase):
    def check(self, cloth, expected):
        answer = asked(holders, cloth)
        self.assertEqual(answer, expected)
        self.assertIs(type(answer), list)
        self.assertTrue(all(number is None or type(number) is int for number in answer))

    def test_no_cloth(self):
        self.check([], [])
        self.check(Bed().cloth(), [])

    def test_the_cast_alone_is_not_held(self):
        for many in range(1, 17):
            self.check(told([("cast", many, "a")])[0], [None] * many)

    def test_each_stitch(self):
        cast = ("cast", 2, "a")
        for row, expected in (("kk", [3, 2, None, None]), ("pp", [3, 2, None, None]), ("tt", [None] * 4), ("ss", [None] * 2),
                              ("l", [2, 2, None]), ("r", [2, 2, None]), ("kos", [3, None, None, None]), ("sp", [None, 2, None])):
            self.check(told([cast, ("row", "b", row)])[0], expected)

    def test_loops_held_together(self):
        ahead = [("cast", 2, "a"), ("row", "b", "tt")]
        for stitch in "lr":
            self.check(told(ahead + [("row", "c", stitch)])[0], [4, 4, 4, 4, None])
        self.check(told(ahead + [("row", "c", "kp")])[0], [4, 5, 5, 4, None, None])

    def test_the_cloth_of_a_bed(self):
        bed = Bed()
        for deed in (("tuck", "f", 0, "a"), ("tuck", "b", 9, "a"), ("tuck", "f", 0, "b"), ("knit", "f", 0, "c"),
                     ("tuck", "f", 0, "c"), ("move", "f", 0, 1), ("knit", "b", 1, "a")):
            bed.act(deed)
        self.check(bed.cloth(), [3, None, 3, 5, 5, None])
        bed.rip()
        self.check(bed.cloth(), [3, None, 3, None, None])

    def test_many_cloths(self):
        for cloth in cloths():
            expected = []
            for number in range(len(cloth)):
                found = [above for above, (_, _, held) in enumerate(cloth) if number in held]
                self.assertLessEqual(len(found), 1)
                expected.append(found[0] if found else None)
            self.check(cloth, expected)

    def test_what_is_told_is_the_askers_own(self):
        cloth = told([("cast", 2, "a"), ("row", "b", "kp")])[0]
        kept = list(holders(cloth))
        answer = holders(cloth)
        answer.clear()
        self.assertEqual(holders(cloth), kept)
        answer = holders(cloth)
        cloth.clear()
        self.assertEqual(answer, kept)
        self.assertEqual(len(lists_in(answer)), 1)


class SpentTest(unittest.TestCase):
    def check(self, cloth, yarn, expected):
        answer = asked(lambda both: spent(both[0], both[1]), (cloth, yarn))
        self.assertEqual(answer, expected)
        self.assertIs(type(answer), int)

    def test_no_cloth(self):
        for yarn in YARNS:
            self.check([], yarn, 0)

    def test_the_cast(self):
        for many in range(1, 17):
            for yarn in YARNS:
                self.check(told([("cast", many, "c")])[0], yarn, many if yarn == "c" else 0)

    def test_rows(self):
        cloth = told([("cast", 8, "a"), ("row", "b", "kptslro"), ("row", "c", "s" * 7), ("row", "a", "klpsr")])[0]
        for yarn, many in (("a", 8 + 4), ("b", 6), ("c", 0), ("d", 0), ("f", 0)):
            self.check(cloth, yarn, many)

    def test_the_cloth_of_a_bed(self):
        bed = Bed()
        for deed in (("tuck", "f", 0, "a"), ("tuck", "f", 0, "b"), ("knit", "f", 0, "b"), ("move", "f", 0, 1),
                     ("knit", "b", 1, "e")):
            bed.act(deed)
        for yarn, many in (("a", 1), ("b", 2), ("e", 1), ("c", 0)):
            self.check(bed.cloth(), yarn, many)
        bed.rip()
        self.check(bed.cloth(), "e", 0)

    def test_many_cloths(self):
        for cloth in cloths():
            many = {yarn: 0 for yarn in YARNS}
            for yarn, _, _ in cloth:
                many[yarn] += 1
            for yarn in YARNS:
                self.check(cloth, yarn, many[yarn])


if __name__ == "__main__":
    unittest.main()
