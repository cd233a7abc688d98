"""What the test files share."""

import unittest


class Cases(unittest.TestCase):
    """Test cases that ask for an error of exactly one class."""

    def check_raises(self, error, function, *arguments):
        with self.assertRaises(error) as caught:
            function(*arguments)
        self.assertIs(type(caught.exception), error)

    def check_all_raise(self, error, function, values):
        # The values are told by their place: some of them are too large to be written out.
        for place, value in enumerate(values):
            with self.subTest(function=function.__name__, place=place):
                self.check_raises(error, function, value)

    def check_new_list(self, function, *arguments):
        """The caller may change a returned list without an effect on later results."""
        first = function(*arguments)
        self.assertIs(type(first), list)
        kept = list(first)
        first.append("changed")
        first.reverse()
        second = function(*arguments)
        self.assertEqual(second, kept)
        second.clear()
        self.assertEqual(function(*arguments), kept)
        self.assertEqual(len(first), len(kept) + 1)
