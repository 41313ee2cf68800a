"""The names of bounds.py and errors.py."""

import unittest

from flatbonds import bounds, errors

BOUNDS = {"MAX_SPOTS": 14, "MAX_TIES": 28, "MAX_FAR": 60, "MAX_LISTED": 1000, "MAX_OUT": 2, "MAX_MOVED": 7,
          "MAX_WAYS": 150, "MAX_EDITS": 40, "BATCH": 12}

ERRORS = {
    "Unfit": None, "BadText": "line", "TooMany": "limit", "InForest": "tie", "NotInForest": "tie", "Neither": None,
    "SameSpot": None, "NotBlock": None, "NotParting": None, "NoPart": "number", "NotFlat": None, "NotWhole": None,
    "BadMove": None, "BadChange": None, "NotBasis": None, "NotOpposite": None, "BadWeb": "error", "NoTie": "index",
    "NoSpot": "spot", "BadBatch": None, "Rejected": "index", "TooManyEdits": None, "NothingToUndo": None,
    "NothingToRedo": None, "NoVersion": "given", "Crossed": "paper",
}


class BoundsTest(unittest.TestCase):
    def test_values(self):
        for name, number in BOUNDS.items():
            self.assertEqual((name, getattr(bounds, name)), (name, number))
            self.assertIs(type(getattr(bounds, name)), int)


class ErrorsTest(unittest.TestCase):
    def test_directly_under_weberror(self):
        self.assertEqual(errors.WebError.__bases__, (ValueError,))
        for name in ERRORS:
            made = getattr(errors, name)
            self.assertEqual((name, made.__bases__), (name, (errors.WebError,)))
            self.assertEqual(made.__module__, "flatbonds.errors")

    def test_no_further_ones(self):
        found = {name for name, each in vars(errors).items() if isinstance(each, type)}
        self.assertEqual(found, set(ERRORS) | {"WebError"})

    def test_without_arguments(self):
        for name, word in ERRORS.items():
            made = getattr(errors, name)
            if word is None:
                self.assertIsInstance(made(), ValueError)
            else:
                with self.assertRaises(TypeError):
                    made()

    def test_arguments_are_kept_by_place_and_by_name(self):
        worths = [None, 0, -5, True, "words", "", (1, 2), (None, "web"), [1, [2]], {"a": []}, 10 ** 30, object()]
        for name, word in ERRORS.items():
            for worth in worths if word else []:
                made = getattr(errors, name)
                self.assertIs(getattr(made(worth), word), worth)
                self.assertIs(getattr(made(**{word: worth}), word), worth)
                self.assertIsInstance(str(made(worth)), str)

    def test_raised_and_caught(self):
        for name, word in ERRORS.items():
            made = getattr(errors, name)
            with self.assertRaises(errors.WebError) as caught:
                raise made(*([3] if word else []))
            self.assertIs(type(caught.exception), made)


if __name__ == "__main__":
    unittest.main()
