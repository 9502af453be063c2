"""Point 5: names, rows, sums, meetings."""

import itertools
import unittest

from roundsalone.rows import is_name, is_row, meets_evenly, summed
from tests.brute import every_row

SIGNS = "abcdefghijklmnopqrstuvwxyz0123456789"
OTHER_SIGNS = "".join(chr(at) for at in range(32, 127) if chr(at) not in SIGNS)
FAR_SIGNS = "\n\t\x00\u00e4\u00df\u0430\u0661\u00b2\u2160\uff41"
NO_TEXTS = (0, 1, -1, 7, True, False, None, [], ["a"], [["a"]], (), ("a",), (("a",),))


class Names(unittest.TestCase):

    def test_one_sign(self):
        for sign in SIGNS:
            self.assertIs(is_name(sign), True, sign)

    def test_one_to_six_signs(self):
        for many in range(1, 7):
            self.assertIs(is_name("a7zz09"[:many]), True, many)

    def test_no_sign_or_too_many(self):
        for text in ("", "abcdefg", "0000000", "a" * 4000):
            self.assertIs(is_name(text), False, text)

    def test_another_sign_at_any_place(self):
        for sign in OTHER_SIGNS + FAR_SIGNS:
            for many in range(6):
                for at in range(many + 1):
                    text = "abc12"[:at] + sign + "abc12"[at:many]
                    self.assertIs(is_name(text), False, text)

    def test_what_is_no_text(self):
        for thing in NO_TEXTS:
            self.assertIs(is_name(thing), False, thing)


class Rows(unittest.TestCase):

    def test_rising_lists(self):
        for row in ([], ["a"], ["a", "b"], ["0", "9", "a", "z"], ["a", "a0", "aa", "b"], ["10", "9"], ["abcdef", "b"]):
            self.assertIs(is_row(row), True, row)

    def test_a_row_of_many_names(self):
        names = sorted(one + other for one in SIGNS[:19] for other in SIGNS[:19])
        self.assertIs(is_row(names), True)
        self.assertIs(is_row(names + ["a"]), False)

    def test_each_order_of_three_names(self):
        for order in itertools.permutations(["a", "aa", "b"]):
            self.assertIs(is_row(list(order)), order == ("a", "aa", "b"), order)

    def test_lists_that_do_not_rise(self):
        for row in (["b", "a"], ["a", "0"], ["9", "10"], ["aa", "a"], ["a", "c", "b"], ["b", "a", "c"]):
            self.assertIs(is_row(row), False, row)

    def test_a_name_twice(self):
        for row in (["a", "a"], ["a", "b", "b"], ["a", "a", "b"], ["a", "b", "a"]):
            self.assertIs(is_row(row), False, row)

    def test_lists_that_hold_another_thing(self):
        for thing in NO_TEXTS + ("", "A", "a b", "abcdefg", "-"):
            for row in ([thing], ["a", thing], [thing, "a"], ["a", thing, "b"], [thing, thing]):
                self.assertIs(is_row(row), False, row)

    def test_what_is_no_list(self):
        for thing in ((), ("a",), ("a", "b"), "", "a", "ab", "a b", 0, 1, 3, True, False, None, ([],), (["a"],)):
            self.assertIs(is_row(thing), False, thing)

    def test_asking_changes_nothing(self):
        for row in (["b", "a"], ["a", "b"], ["a", ["b"], None]):
            kept = repr(row)
            is_row(row)
            self.assertEqual(repr(row), kept)


class Sums(unittest.TestCase):

    def test_written_ones(self):
        for rows, told in (
            ([], []),
            ([[]], []),
            ([[], []], []),
            ([["a", "b"]], ["a", "b"]),
            ([["a", "b"], ["a", "b"]], []),
            ([["a", "b"], ["a", "b"], ["a", "b"]], ["a", "b"]),
            ([["b", "c"], ["a", "b"]], ["a", "c"]),
            ([["z"], ["a"], ["m"], []], ["a", "m", "z"]),
            ([["9"], ["10"]], ["10", "9"]),
            ([["a", "b"], ["b", "c"], ["a", "c"]], []),
            ([["a", "b", "c"], ["b", "c"], ["c"]], ["a", "c"]),
        ):
            self.assertEqual(summed(rows), told, rows)

    def test_against_the_words(self):
        all_rows = every_row(["a", "b0", "c"])
        for many in range(4):
            for rows in itertools.product(all_rows, repeat=many):
                told = summed([list(row) for row in rows])
                odd = [name for name in ("a", "b0", "c") if sum(row.count(name) for row in rows) % 2 == 1]
                self.assertEqual(told, odd, rows)

    def test_the_same_list_handed_in_twice(self):
        row = ["a", "b"]
        self.assertEqual(summed([row, row]), [])
        self.assertEqual(summed([row, row, row]), ["a", "b"])

    def test_what_is_handed_in_stays(self):
        rows = [["b", "c"], ["a", "b"], []]
        summed(rows)
        self.assertEqual(rows, [["b", "c"], ["a", "b"], []])

    def test_the_told_row_is_a_new_one(self):
        for rows in ([], [[]], [["a", "b"]], [["a"], ["b"]]):
            kept = [list(row) for row in rows]
            told = summed(rows)
            again = list(told)
            told.append("zz")
            told.reverse()
            self.assertEqual(rows, kept)
            self.assertEqual(summed(rows), again)

    def test_what_is_done_to_what_was_handed_in_changes_nothing_told(self):
        rows = [["a", "b"]]
        told = summed(rows)
        rows[0].append("c")
        rows.append(["d"])
        self.assertEqual(told, ["a", "b"])


class Meetings(unittest.TestCase):

    def test_written_ones(self):
        for one, other, told in (
            ([], [], True),
            ([], ["a"], True),
            (["a"], ["b"], True),
            (["a"], ["a"], False),
            (["a", "b"], ["a", "b"], True),
            (["a", "b"], ["b", "c"], False),
            (["a", "b", "c"], ["a", "c", "d"], True),
            (["a", "b", "c"], ["a", "b", "c"], False),
        ):
            self.assertIs(meets_evenly(one, other), told, (one, other))
            self.assertIs(meets_evenly(other, one), told, (other, one))

    def test_against_the_words(self):
        all_rows = every_row(["a", "b", "c", "d"])
        for one in all_rows:
            for other in all_rows:
                both = [name for name in "abcd" if name in one and name in other]
                self.assertIs(meets_evenly(one, other), len(both) % 2 == 0, (one, other))

    def test_a_row_with_itself(self):
        for row in every_row(["a", "b", "c", "d", "e"]):
            self.assertIs(meets_evenly(row, row), len(row) % 2 == 0, row)

    def test_what_is_handed_in_stays(self):
        one, other = ["a", "b"], ["b", "c"]
        meets_evenly(one, other)
        self.assertEqual((one, other), (["a", "b"], ["b", "c"]))


if __name__ == "__main__":
    unittest.main()
