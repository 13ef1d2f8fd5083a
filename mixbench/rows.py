"""Rows: lists of whole numbers, added, taken times a number, made later, cut in blocks."""


def added_rows(one, other):
    shared = min(len(one), len(other))
    both = [one[at] + other[at] for at in range(shared)]
    # One of these two rests has no tones.
    return both + one[shared:] + other[shared:]


def times_row(row, by):
    return [tone * by for tone in row]


def made_later(row, n):
    return [0] * n + row


def in_blocks(row, lengths):
    blocks = []
    start = 0
    for length in lengths:
        end = start + length
        # A slice that reaches beyond the row ends where the row ends.
        blocks.append(row[start:end])
        start = end
    blocks.append(row[start:])
    return blocks
