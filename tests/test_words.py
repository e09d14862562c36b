import itertools
import unittest

from scriptpicks.words import fresh, is_home, is_integer, is_name, is_relation
from tests.values import check_kind, odd_values

ALPHABET = "abcdefghijklmnopqrstuvwxyz"


class KindsTest(unittest.TestCase):
    def test_is_integer(self):
        check_kind(self, is_integer, [0, 1, -1, 7, 10 ** 59, -10 ** 59], [True, False, "", "1", b"1", [1], (1,), {1}])
        check_kind(self, is_integer, [], odd_values())

    def test_is_name(self):
        good = ["a", "z", "az", "abcdefgh", "zzzzzzzz", "eq", "goal", "m"] + list(ALPHABET)
        bad = ["abcdefghi", "A", "aB", "Ab", "a1", "1", "a_b", "-", "a b", " a", "a ", "a\n", "\n", "`", "{", "a?", "~"]
        check_kind(self, is_name, good, bad + [0, 1, ["a"], ("a",), ["a", "b"], {"a"}, b"a"])
        check_kind(self, is_name, [], odd_values())

    def test_is_relation(self):
        bad = ["", "e", "q", "EQ", "Lt", "eqlt", "le", "ge", "ne", "=", "<", "eq ", " lt", "lt\n", 0, 1, ("eq",), ["lt"]]
        check_kind(self, is_relation, ["eq", "lt", "gt"], bad)
        check_kind(self, is_relation, [], odd_values())

    def test_is_home(self):
        bad = ["", "g", "Goal", "BOOK", "goals", "goal ", "new", "made", "aim", "goalbook", 0, 1, ("goal",), ["book"]]
        check_kind(self, is_home, ["goal", "book"], bad)
        check_kind(self, is_home, [], odd_values())


class FreshTest(unittest.TestCase):
    def test_the_least_of_the_shortest(self):
        self.assertEqual(fresh([]), "a")
        self.assertEqual(fresh(["a"]), "b")
        self.assertEqual(fresh(["b"]), "a")
        self.assertEqual(fresh(["a", "c"]), "b")
        self.assertEqual(fresh(["c", "b", "a"]), "d")
        self.assertEqual(fresh(["a", "a", "b", "a"]), "c")
        self.assertEqual(fresh(list(ALPHABET[:-1])), "z")
        self.assertEqual(fresh(["aa", "b"]), "a")

    def test_longer_names_when_all_shorter_ones_are_taken(self):
        one = list(ALPHABET)
        two = [a + b for a, b in itertools.product(ALPHABET, repeat=2)]
        self.assertEqual(fresh(one), "aa")
        self.assertEqual(fresh(one + ["aa"]), "ab")
        self.assertEqual(fresh(one + two[:26]), "ba")
        self.assertEqual(fresh(one + ["ab", "ac"]), "aa")
        self.assertEqual(fresh(one + two[:-1]), "zz")
        self.assertEqual(fresh(one + two), "aaa")
        self.assertEqual(fresh(two + one[:-1]), "z")
        self.assertEqual(fresh((one + two)[::-1] + ["aaa", "aab"]), "aac")

    def test_many_names(self):
        names = list(ALPHABET) + [a + b for a, b in itertools.product(ALPHABET, repeat=2)]
        names += ["".join(letters) for letters in itertools.product(ALPHABET, repeat=3)][:4298]
        self.assertEqual(len(names), 5000)
        self.assertEqual(fresh(names), "gji")

    def test_other_strings_do_not_count(self):
        self.assertEqual(fresh(["", "A", "a b", "?", "abcdefghi", "a\n", "x" * 3000]), "a")
        self.assertEqual(fresh(["", "B", "a", "a "]), "b")

    def test_the_list_stays(self):
        names = ["c", "a"]
        self.assertEqual([fresh(names), fresh(names)], ["b", "b"])
        self.assertEqual(names, ["c", "a"])
