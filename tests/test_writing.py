import re
import unittest

from loopbed.errors import BedFault, LoopError, NoPattern, Unfit
from loopbed.writing import read, shown
from model import STITCHES, YARNS, any_patterns, asked, good_patterns

PAIRS = [
    ([("cast", 1, "a")], "cast 1 a"),
    ([("cast", 9, "c")], "cast 9 c"),
    ([("cast", 10, "d")], "cast 10 d"),
    ([("cast", 16, "f")], "cast 16 f"),
    ([("cast", 3, "b"), ("row", "a", "k")], "cast 3 b\nrow a k"),
    ([("cast", 3, "b"), ("row", "f", "kptslro")], "cast 3 b\nrow f kptslro"),
    ([("cast", 2, "e"), ("row", "a", "kk"), ("row", "b", "ss")], "cast 2 e\nrow a kk\nrow b ss"),
    ([("cast", 1, "a"), ("row", "a", "k" * 24)], "cast 1 a\nrow a " + "k" * 24),
    ([("cast", 1, "a")] + [("row", "a", "k")] * 12, "cast 1 a" + "\nrow a k" * 12),
    ([("cast", 16, "f")] + [("row", "f", "o" * 24)] * 12, "cast 16 f" + ("\nrow f " + "o" * 24) * 12),
]

WRITTEN = re.compile(r"cast ([1-9]|1[0-6]) [a-f](\nrow [a-f] [kptslro]{1,24}){0,12}")
GOOD = "cast 12 b\nrow c kptslro\nrow d k"


def refused_texts():
    texts = ["", " ", "\n", "\t", "row a k", "row a k\ncast 1 a", "\ncast 1 a", "cast 1 a\n", "cast 1 a\n\nrow a k"]
    texts += ["cast 1 a\ncast 1 a", "cast 1 a\nrow a k\ncast 2 b", "cast 1 a\nrow a k\n", " \ncast 1 a", "cast 1 a\n "]
    for many in ("0", "00", "17", "18", "20", "99", "100", "116", "161", "1" * 400, "01", "016", "+1", "-1", "+", "-",
                 "1.0", "1_0", "0x1", "1e0", "one", "a", "", "1,", "1 2", "1\t", "~"):
        texts += [f"cast {many} a", f"cast {many} a\nrow a k"]
    texts += ["cast", "cast ", "cast  ", "cast 1", "cast a", "cast 1 ", "cast1a", "cast 1a", "cast1 a", "cast a 1"]
    for yarn in ("g", "z", "A", "F", "ab", "aa", "abcdef", "", "1", "`", "a.", "*"):
        texts += [f"cast 1 {yarn}", f"cast 1 a\nrow {yarn} k"]
    for stitches in ("", "k" * 25, "kptslro" * 4, "x", "K", "kkx", "xkk", "kxk", "k1", "k-", "kk k", "k,k", "q", "a"):
        texts += [f"cast 1 a\nrow a {stitches}", f"cast 1 a\nrow a k\nrow a {stitches}\nrow a k"]
    texts += ["cast  1 a", "cast 1  a", " cast 1 a", "cast 1 a ", "cast\t1 a", "cast 1\ta", "\tcast 1 a", "cast 1 a\t"]
    for line in ("row", "row ", "row a", "row k", "row a ", "row  a k", "row a  k", " row a k", "row a k ", "row\ta k",
                 "row a\tk", "\trow a k", "row a k\t", "row a k k", "row a k\nk", "rowa k", "row ak", "row k a", "a k"):
        texts.append("cast 1 a\n" + line)
    for word in ("Cast", "CAST", "cas", "casts", "bind", "row", ""):
        texts.append(f"{word} 1 a")
    for word in ("Row", "ROW", "ro", "rows", "purl", "cast", ""):
        texts.append(f"cast 1 a\n{word} a k")
    texts += ["cast 1 a" + "\nrow a k" * many for many in (13, 14, 40)]
    texts += ["cast 1 a row a k", "cast 1 a\\nrow a k", "('cast', 1, 'a')", "#cast 1 a", "cast 1 a\n# remark", "~" * 500]
    return texts


class ShownTest(unittest.TestCase):
    def test_written_line_by_line(self):
        for pattern, text in PAIRS:
            with self.subTest(text):
                self.assertEqual(asked(shown, pattern), text)

    def test_every_number_yarn_and_stitch(self):
        for many in range(1, 17):
            for yarn in YARNS:
                self.assertEqual(shown([("cast", many, yarn)]), "cast " + str(many) + " " + yarn)
        for yarn in YARNS:
            for stitch in STITCHES:
                for long in range(1, 25):
                    pattern = [("cast", 1, "a"), ("row", yarn, stitch * long)]
                    self.assertEqual(asked(shown, pattern), "cast 1 a\nrow " + yarn + " " + stitch * long)

    def test_one_line_for_each(self):
        for pattern in any_patterns(1, 200):
            lines = asked(shown, pattern).split("\n")
            self.assertEqual(len(lines), len(pattern))
            for line, part in zip(lines, pattern):
                self.assertEqual(line.split(" "), [str(word) for word in part])

    def test_is_a_text(self):
        self.assertIs(type(shown([("cast", 1, "a")])), str)

    def test_beyond_the_bounds_nothing_is_refused(self):
        self.assertEqual(shown([("cast", 17, "a")]), "cast 17 a")
        self.assertEqual(shown([("cast", 0, "a")]), "cast 0 a")
        self.assertEqual(shown([("cast", 1, "a"), ("row", "b", "k" * 30)]), "cast 1 a\nrow b " + "k" * 30)
        self.assertEqual(shown([("cast", 1, "a")] + [("row", "b", "k")] * 15), "cast 1 a" + "\nrow b k" * 15)


class ReadTest(unittest.TestCase):
    def check_kinds(self, pattern):
        self.assertIs(type(pattern), list)
        for part in pattern:
            self.assertIs(type(part), tuple)
            self.assertEqual(len(part), 3)
        self.assertEqual([type(word) for word in pattern[0]], [str, int, str])
        for row in pattern[1:]:
            self.assertEqual([type(word) for word in row], [str, str, str])

    def test_written_patterns_come_back(self):
        for pattern, text in PAIRS:
            with self.subTest(text):
                self.assertEqual(read(text), pattern)
                self.check_kinds(read(text))

    def test_every_number_and_yarn(self):
        for many in range(1, 17):
            for yarn in YARNS:
                self.assertEqual(read("cast " + str(many) + " " + yarn), [("cast", many, yarn)])

    def test_every_length_of_stitches(self):
        for stitch in STITCHES:
            for long in range(1, 25):
                text = "cast 1 a\nrow b " + stitch * long
                self.assertEqual(read(text), [("cast", 1, "a"), ("row", "b", stitch * long)])

    def test_many_patterns_come_back_also_behind_another(self):
        patterns = any_patterns(2, 200) + good_patterns(3, 50)
        texts = [shown(pattern) for pattern in patterns]
        for pattern, text in zip(patterns, texts):
            self.assertEqual(read(text), pattern)
            self.check_kinds(read(text))
        for pattern, text in zip(reversed(patterns), reversed(texts)):
            self.assertEqual(read(text), pattern)

    def test_what_is_told_is_the_askers_own(self):
        first = read(GOOD)
        kept = list(first)
        first.append(("row", "a", "k"))
        first[0] = None
        self.assertEqual(read(GOOD), kept)
        self.assertIsNot(read(GOOD), read(GOOD))

    def test_every_other_text_is_refused(self):
        good = read(GOOD)
        for text in refused_texts():
            with self.subTest(text):
                with self.assertRaises(NoPattern) as taken:
                    read(text)
                self.assertIsInstance(taken.exception, LoopError)
                self.assertIsInstance(taken.exception, ValueError)
                self.assertNotIsInstance(taken.exception, (Unfit, BedFault))
                self.assertEqual(read(GOOD), good)

    def test_one_sign_changed_is_read_back_or_refused(self):
        signs = "\t\n" + "".join(chr(n) for n in range(32, 127) if chr(n) != "%")
        text = "cast 12 b\nrow c kpo"
        for at in range(len(text) + 1):
            for sign in signs:
                for changed in (text[:at] + sign + text[at:], text[:at] + sign + text[at + 1:]):
                    try:
                        pattern = read(changed)
                    except NoPattern:
                        self.assertFalse(self.is_written(changed), changed)
                    else:
                        self.assertEqual(shown(pattern), changed)
                        self.assertTrue(self.is_written(changed), changed)

    def is_written(self, text):
        return WRITTEN.fullmatch(text) is not None


if __name__ == "__main__":
    unittest.main()
