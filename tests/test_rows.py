"""Rows [7], and that lists handed in and told are the asker's own [2]."""

import unittest

from mixbench.rows import added_rows, in_blocks, made_later, times_row

ROWS = [[], [0], [5], [-1, 0, 1], [3, -4, 5, -6], [0, 0, 0, 0, 7], [10 ** 12, -(10 ** 12)], [10 ** 1999]]
LENGTHS = [[], [0], [1], [2, 3], [0, 0, 0], [1, 0, 1], [4], [5], [6], [3, 3], [1, 1, 1, 1, 1, 1, 1], [100], [2, 100, 1],
           [10 ** 30, 10 ** 30]]


def tone(row, at):
    return row[at] if at < len(row) else 0


class Added(unittest.TestCase):
    def test_written_out(self):
        self.assertEqual(added_rows([1, 2, 3], [10, -2, 0]), [11, 0, 3])
        self.assertEqual(added_rows([1, 2, 3], [10]), [11, 2, 3])
        self.assertEqual(added_rows([10], [1, 2, 3]), [11, 2, 3])

    def test_without_tones(self):
        self.assertEqual(added_rows([], []), [])
        self.assertEqual(added_rows([], [4, -5]), [4, -5])
        self.assertEqual(added_rows([4, -5], []), [4, -5])

    def test_noughts_at_the_end_stay(self):
        self.assertEqual(added_rows([1, 0], [-1]), [0, 0])

    def test_all_pairs_in_both_orders(self):
        for one in ROWS:
            for other in ROWS:
                most = max(len(one), len(other))
                self.assertEqual(added_rows(one, other), [tone(one, at) + tone(other, at) for at in range(most)])

    def test_a_row_and_itself(self):
        row = [1, -2]
        self.assertEqual(added_rows(row, row), [2, -4])
        self.assertEqual(row, [1, -2])


class Times(unittest.TestCase):
    def test_written_out(self):
        self.assertEqual(times_row([1, -2, 0], 3), [3, -6, 0])
        self.assertEqual(times_row([1, -2, 0], 1), [1, -2, 0])
        self.assertEqual(times_row([1, -2, 0], -3), [-3, 6, 0])

    def test_times_nought_has_as_many_tones(self):
        self.assertEqual(times_row([1, -2, 7], 0), [0, 0, 0])

    def test_without_tones(self):
        for by in (-2, 0, 1, 5):
            self.assertEqual(times_row([], by), [])

    def test_numbers_of_many_figures(self):
        self.assertEqual(times_row([10 ** 1000, -1], -(10 ** 900)), [-(10 ** 1900), 10 ** 900])


class Later(unittest.TestCase):
    def test_written_out(self):
        self.assertEqual(made_later([1, 2], 3), [0, 0, 0, 1, 2])
        self.assertEqual(made_later([1, 2], 1), [0, 1, 2])

    def test_by_nought(self):
        for row in ROWS:
            self.assertEqual(made_later(row, 0), row)

    def test_without_tones(self):
        self.assertEqual(made_later([], 0), [])
        self.assertEqual(made_later([], 2), [0, 0])


class Blocks(unittest.TestCase):
    def test_no_lengths(self):
        self.assertEqual(in_blocks([1, 2, 3], []), [[1, 2, 3]])

    def test_a_length_of_nought(self):
        self.assertEqual(in_blocks([1, 2], [0]), [[], [1, 2]])
        self.assertEqual(in_blocks([1, 2], [1, 0, 0]), [[1], [], [], [2]])

    def test_lengths_that_come_to_just_the_row(self):
        self.assertEqual(in_blocks([1, 2, 3], [3]), [[1, 2, 3], []])
        self.assertEqual(in_blocks([1, 2, 3], [1, 2]), [[1], [2, 3], []])

    def test_lengths_that_come_to_less(self):
        self.assertEqual(in_blocks([1, 2, 3, 4], [1, 2]), [[1], [2, 3], [4]])

    def test_lengths_that_come_to_more(self):
        self.assertEqual(in_blocks([1, 2, 3], [4]), [[1, 2, 3], []])
        self.assertEqual(in_blocks([1, 2, 3], [2, 2]), [[1, 2], [3], []])
        self.assertEqual(in_blocks([1, 2, 3], [2, 2, 2, 0]), [[1, 2], [3], [], [], []])
        self.assertEqual(in_blocks([1, 2, 3], [10 ** 30, 1]), [[1, 2, 3], [], []])

    def test_the_row_without_tones(self):
        self.assertEqual(in_blocks([], []), [[]])
        self.assertEqual(in_blocks([], [0]), [[], []])
        self.assertEqual(in_blocks([], [2, 3]), [[], [], []])

    def test_one_block_more_and_all_joined_are_the_row(self):
        for row in ROWS:
            for lengths in LENGTHS:
                with self.subTest(row=row, lengths=lengths):
                    blocks = in_blocks(row, lengths)
                    self.assertEqual(len(blocks), len(lengths) + 1)
                    self.assertEqual([one for block in blocks for one in block], row)
                    left = len(row)
                    for block, length in zip(blocks, lengths):
                        self.assertEqual(len(block), min(length, left))
                        left -= len(block)


ASKED = [
    ("added, both with tones", added_rows, ([1, 2, 3], [4])),
    ("added, the first without tones", added_rows, ([], [4, 5])),
    ("added, the second without tones", added_rows, ([4, 5], [])),
    ("added, none with tones", added_rows, ([], [])),
    ("times 1", times_row, ([1, 2], 1)),
    ("times 0", times_row, ([1, 2], 0)),
    ("times of no tones", times_row, ([], 2)),
    ("later by 0", made_later, ([1, 2], 0)),
    ("later by 2", made_later, ([1, 2], 2)),
    ("later without tones", made_later, ([], 0)),
    ("blocks without lengths", in_blocks, ([1, 2], [])),
    ("one block of all", in_blocks, ([1, 2], [2])),
    ("blocks beyond the end", in_blocks, ([1, 2, 3], [1, 0, 5, 0])),
    ("blocks of no tones", in_blocks, ([], [0, 1])),
]


def copied(value):
    return [copied(one) for one in value] if isinstance(value, list) else value


def spoil(value):
    """Changes a list, and the lists in it, at its front and its end."""
    for one in value:
        if isinstance(one, list):
            spoil(one)
    value.insert(0, 77)
    value.append(99)


class AskersOwn(unittest.TestCase):
    def test_what_is_handed_in_stays(self):
        for words, asked, given in ASKED:
            with self.subTest(words):
                handed = copied(list(given))
                asked(handed[0], handed[1])
                self.assertEqual(handed, list(given))

    def test_changing_what_was_told_changes_nothing_else(self):
        for words, asked, given in ASKED:
            with self.subTest(words):
                handed = copied(list(given))
                told = asked(handed[0], handed[1])
                before = copied(told)
                spoil(told)
                self.assertEqual(handed, list(given))
                self.assertEqual(asked(handed[0], handed[1]), before)

    def test_changing_what_was_handed_in_leaves_what_was_told(self):
        for words, asked, given in ASKED:
            with self.subTest(words):
                handed = copied(list(given))
                told = asked(handed[0], handed[1])
                before = copied(told)
                for one in handed:
                    if isinstance(one, list):
                        spoil(one)
                self.assertEqual(told, before)

    def test_a_block_changed_leaves_the_other_blocks(self):
        for row, lengths in (([1, 2, 3], [1, 1]), ([], [0, 0]), ([1], [1, 2, 3])):
            blocks = in_blocks(row, lengths)
            for at in range(len(blocks)):
                before = copied(blocks)
                blocks[at].append(99)
                self.assertEqual(blocks[:at] + blocks[at + 1:], before[:at] + before[at + 1:])


if __name__ == "__main__":
    unittest.main()
