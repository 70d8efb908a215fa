import unittest

from loopbed import errors

BASES = {
    "LoopError": ValueError,
    "NoPattern": errors.LoopError,
    "Unfit": errors.LoopError,
    "BedFault": errors.LoopError,
    "Empty": errors.BedFault,
    "Overfull": errors.BedFault,
    "TooFar": errors.BedFault,
    "NothingDone": errors.BedFault,
}


class ErrorsTest(unittest.TestCase):
    def test_each_class_stands_straight_under_its_base(self):
        for name, base in BASES.items():
            with self.subTest(name):
                self.assertEqual(getattr(errors, name).__bases__, (base,))

    def test_each_class_bears_its_own_name(self):
        for name in BASES:
            self.assertEqual(getattr(errors, name).__name__, name)

    def test_each_can_be_raised_and_taken_as_any_refusal(self):
        for name in BASES:
            for taken in (errors.LoopError, ValueError):
                with self.subTest(name), self.assertRaises(taken):
                    raise getattr(errors, name)("words")

    def test_none_takes_its_neighbours(self):
        kin = [errors.NoPattern, errors.Unfit, errors.BedFault]
        bed = [errors.Empty, errors.Overfull, errors.TooFar, errors.NothingDone]
        for group in (kin, bed):
            for one in group:
                for other in group:
                    self.assertEqual(issubclass(one, other), one is other)


if __name__ == "__main__":
    unittest.main()
