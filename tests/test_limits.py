"""The limits, as [10] and [15] tell them."""

import unittest

from grudgecote.limits import FEW_GRUDGES, MOST_GRUDGES

from tests.helper import Promises


class Limits(Promises, unittest.TestCase):

    def test_they_are_as_written(self):
        self.same(MOST_GRUDGES, 10)
        self.same(FEW_GRUDGES, 6)


if __name__ == "__main__":
    unittest.main()
