import string
import unittest

from shelfroutes.base import names
from shelfroutes.base.names import MAX_COLUMNS, MAX_DIGITS, is_integer, is_name, is_result, is_row
from tests.values import LONGEST, TOO_LONG, everything, named, whole


def is_told_row(value):
    return isinstance(value, tuple) and 1 <= len(value) <= 6 and all(whole(entry) for entry in value)


def is_told_result(value):
    if not isinstance(value, tuple) or not 1 <= len(value) <= 5:
        return False
    *first, last = value
    if not all(whole(entry) and entry >= 1 for entry in first):
        return False
    return (last is None and first != []) or (whole(last) and last >= 1)


class Judged(unittest.TestCase):
    def check(self, judge, right, wrong):
        for value in right:
            self.assertIs(judge(value), True, value)
        for value in wrong:
            self.assertIs(judge(value), False, value)

    def check_everything(self, judge, told):
        for value in everything():
            self.assertIs(judge(value), told(value), value)


class Constants(unittest.TestCase):
    def test_constants(self):
        self.assertEqual((MAX_DIGITS, MAX_COLUMNS), (60, 6))

    def test_functions_are_defined_in_the_module(self):
        for name in ("is_name", "is_integer", "is_row", "is_result"):
            self.assertEqual(vars(names)[name].__module__, "shelfroutes.base.names")


class Names(Judged):
    def test_one_to_eight_letters(self):
        self.check(is_name, ["a", "z", "ab", "self", "tests", "abcdefg", "abcdefgh", "zzzzzzzz"],
                   ["", "abcdefghi", "z" * 4000])

    def test_each_letter_and_no_other_character(self):
        for code in range(128):
            for text in (chr(code), "a" + chr(code), chr(code) + "z", "ab" + chr(code) + "cd"):
                self.assertIs(is_name(text), chr(code) in string.ascii_lowercase, repr(text))

    def test_letters_of_other_alphabets(self):
        self.check(is_name, [], ["\u00e4", "\u00df", "\u00aa", "a\u0131", "\u03b1"])

    def test_other_kinds(self):
        self.check(is_name, [], [None, True, 1, ("a",), ["a"], {"a": "a"}, b"a"])
        self.check_everything(is_name, named)


class Integers(Judged):
    def test_sixty_and_sixty_one_digits(self):
        self.check(is_integer, [0, 1, -1, 10 ** 59, -10 ** 59, LONGEST, -LONGEST],
                   [TOO_LONG, -TOO_LONG, TOO_LONG + 1, 10 ** 99, -10 ** 99])

    def test_booleans_and_other_kinds(self):
        self.check(is_integer, [], [True, False, None, "1", "", (1,), [1], {1: 1}, 1.0])
        self.check_everything(is_integer, whole)


class Rows(Judged):
    def test_one_to_six_integers(self):
        self.check(is_row, [(1,) * many for many in range(1, 7)], [(), (1,) * 7, (1,) * 100])
        self.check(is_row, [(0,), (-5, 0), (LONGEST, -LONGEST)], [])

    def test_each_place(self):
        for many in range(1, 7):
            for at in range(many):
                for wrong in (True, False, None, TOO_LONG, -TOO_LONG, "1", (1,), [1], {}):
                    row = [1] * many
                    row[at] = wrong
                    self.assertIs(is_row(tuple(row)), False, row)

    def test_other_kinds(self):
        self.check(is_row, [], [None, 1, "1", [1], {1: 1}])
        self.check_everything(is_row, is_told_row)


class Results(Judged):
    def test_one_to_five_integers(self):
        self.check(is_result, [(1,) * many for many in range(1, 6)], [(), (1,) * 6, (1,) * 100])
        self.check(is_result, [(1,), (LONGEST,), (LONGEST, 1)], [(0,), (-1,), (1, 0), (1, -1), (0, 1)])

    def test_none_at_the_end_of_two_or_more(self):
        for many in range(1, 5):
            self.assertIs(is_result((3,) * many + (None,)), True)
        self.check(is_result, [], [(None,), (1, 2, 3, 4, 5, None), (None, 1), (None, None), (1, None, None),
                                   (1, None, 1), (0, None), (1, -1, None)])

    def test_each_place(self):
        for many in range(1, 6):
            for at in range(many):
                for wrong in (True, False, TOO_LONG, 0, -1, "1", (1,), [1], {}):
                    result = [1] * many
                    result[at] = wrong
                    self.assertIs(is_result(tuple(result)), False, result)
                    if at < many - 1:
                        result[-1] = None
                        self.assertIs(is_result(tuple(result)), False, result)

    def test_other_kinds(self):
        self.check(is_result, [], [None, 1, "1", [1], [1, 2], {1: 1}, "ab"])
        self.check_everything(is_result, is_told_result)


if __name__ == "__main__":
    unittest.main()
