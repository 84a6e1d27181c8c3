"""The error classes of the interface."""

import unittest

from tollroads import errors

PLAIN = ("BadNode BadRouting BadTolls BadIndex BadDemand BadShare NoWay BadState BadWeights BadLimits BadBottleneck "
         "BadTime BadSlots BadCapacity BadCost BadSlope BadBudget BadWay BadName Taken NoName BadToll NothingToUndo "
         "NotText").split()
FIELDS = {"BadNet": "index", "BadTrips": "index", "BadLanes": "index", "BadGame": "index", "BadOwners": "index",
          "BadWishes": "index", "BadKinds": "index", "BadBuilding": "index", "InvalidText": "place",
          "TooMany": "most"}


class ErrorsTest(unittest.TestCase):
    def test_base_class(self):
        self.assertEqual(errors.RoadError.__bases__, (ValueError,))

    def test_all_are_direct_subclasses(self):
        for name in [*PLAIN, *FIELDS]:
            with self.subTest(name=name):
                self.assertEqual(getattr(errors, name).__bases__, (errors.RoadError,))
                self.assertEqual(getattr(errors, name).__module__, "tollroads.errors")

    def test_fields(self):
        for name, field in FIELDS.items():
            for worth in (0, 3, None):
                with self.subTest(name=name, worth=worth):
                    got = getattr(getattr(errors, name)(worth), field)
                    self.assertEqual((type(got), got), (type(worth), worth))

    def test_names_are_unlike_classes(self):
        self.assertEqual(len({getattr(errors, name) for name in [*PLAIN, *FIELDS]}), 34)


if __name__ == "__main__":
    unittest.main()
