import unittest

from fewhands import limits


class TestLimits(unittest.TestCase):
    def test_values(self):
        named = {name: getattr(limits, name) for name in dir(limits) if not name.startswith("_")}
        self.assertEqual(named, {
            "KINDS": 3, "ROLES": 4, "TASKS": 8, "REMEMBERED": 3, "WIDTH": 5,
            "MANY": 3, "NAMES": 16, "LEVELS": 5, "STANDS": 2000, "CAP": 8,
        })

    def test_integers(self):
        for name in dir(limits):
            if not name.startswith("_"):
                self.assertIs(getattr(limits, name).__class__, int, name)
