"""Exact rows: tuples (tops, bottom), each tone a top over the one bottom."""

from mixbench.ratios import fraction, multiple
from mixbench.rows import added_rows, times_row


def same_tones(one, other):
    # Each row times the other one's bottom: then the same fractions have the same tops.
    return times_row(one[0], other[1]) == times_row(other[0], one[1])


def shared_bottom(bottoms):
    shared = 1
    for bottom in bottoms:
        shared = multiple(shared, bottom)
    return shared


def tops_over(one, bottom):
    return times_row(one[0], bottom // one[1])


def summed(rows):
    bottom = shared_bottom([row[1] for row in rows])
    tops = []
    for row in rows:
        tops = added_rows(tops, tops_over(row, bottom))
    return (tops, bottom)


def tone_at(one, at):
    return fraction(one[0][at], one[1])
