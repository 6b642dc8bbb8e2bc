import unittest

from reachbook import errors

OF_A_TEXT = [
    errors.BadName, errors.Twice, errors.TooMany, errors.BadTie,
    errors.BadLoad, errors.HasTies, errors.SamePoint, errors.BadForest,
    errors.NoState, errors.NoDeed,
]
OF_ONE_FIELD = [
    (errors.NoPoint, "name"), (errors.NoTie, "number"),
    (errors.BadLine, "place"), (errors.BadText, "place"),
]


class ErrorsTest(unittest.TestCase):

    def test_web_error_is_a_value_error(self):
        self.assertEqual(errors.WebError.__bases__, (ValueError,))

    def test_all_stand_straight_under_web_error(self):
        kinds = OF_A_TEXT + [kind for kind, _ in OF_ONE_FIELD]
        for kind in kinds + [errors.BadBundle]:
            with self.subTest(kind=kind):
                self.assertEqual(kind.__bases__, (errors.WebError,))

    def test_each_is_defined_in_its_file(self):
        kinds = OF_A_TEXT + [kind for kind, _ in OF_ONE_FIELD]
        for kind in kinds + [errors.BadBundle, errors.WebError]:
            with self.subTest(kind=kind):
                self.assertEqual(kind.__module__, "reachbook.errors")

    def test_made_of_a_text(self):
        for kind in OF_A_TEXT:
            with self.subTest(kind=kind):
                self.assertEqual(str(kind("why")), "why")

    def test_made_of_one_field(self):
        for kind, field in OF_ONE_FIELD:
            for thing in ["a", 7, None, True, 10 ** 5000, ["x"], object()]:
                with self.subTest(kind=kind):
                    error = kind(thing)
                    self.assertIs(getattr(error, field), thing)
                    self.assertIsInstance(str(error), str)

    def test_bad_bundle(self):
        error = errors.BadBundle(3, "deed")
        self.assertEqual((error.place, error.word), (3, "deed"))
        self.assertIsInstance(str(error), str)


if __name__ == "__main__":
    unittest.main()
