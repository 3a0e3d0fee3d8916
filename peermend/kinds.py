"""Chains and rings, kinds of updates, and samples of kinds ([14] to [16])."""

from peermend.errors import InvalidKind
from peermend.images import check_pair


def check_kind(kind):
    """Raise InvalidKind unless the entries are ascending and each can be of a chain or a ring."""
    if not all([_is_entry(entry) for entry in kind]) or list(kind) != sorted(kind):
        raise InvalidKind()


def parts(before, after):
    """Return the chains and rings as tuples (shape, records), ordered by their least records."""
    check_pair(before, after)
    found = []
    seen = []
    for record, name in enumerate(before):
        if name != after[record] and record not in seen:
            part = _part_of(before, after, record)
            found.append(part)
            seen.extend(part[1])
    return found


def kind_of(before, after):
    """Return the kind of the update from the first state to the second."""
    found = parts(before, after)
    entries = [(shape, len(row), _gain(before, after, row)) for shape, row in found]
    return tuple(sorted(entries))


def reverse_kind(kind):
    """Return the kind of the reversed update."""
    check_kind(kind)
    return tuple(sorted([(shape, length, -gain) for shape, length, gain in kind]))


def sample_rows(kind):
    """Return the two states of the sample of a kind."""
    check_kind(kind)
    before = []
    after = []
    for shape, length, gain in kind:
        start = len(before)
        first = _paired(start, length, 0)
        second = _paired(start, length, 1)
        if shape == "ring":
            second[0] = start + length - 1
            second[-1] = start
        before.extend(second if gain == 1 else first)
        after.extend(first if gain == 1 else second)
    return before, after


def _is_entry(entry):
    """Tell whether a chain or a ring can have this shape, length and gain."""
    if not isinstance(entry, tuple) or len(entry) != 3:
        return False
    shape, length, gain = entry
    if shape == "ring":
        return length >= 4 and length % 2 == 0 and gain == 0
    if shape != "chain" or length < 2:
        return False
    return gain in (1, -1) if length % 2 == 0 else gain == 0


def _part_of(before, after, least):
    """Return the part whose least record is given."""
    row = _walk(before, after, least)
    if after[least] in row[1:]:
        return "ring", row
    back = _walk(after, before, least)
    row = back[:0:-1] + row
    if row[0] > row[-1]:
        row = row[::-1]
    return "chain", row


def _walk(first, second, start):
    """Return the records from `start` on along the links of `first` and `second` in turn,
    up to the end of the chain or once around the ring."""
    row = [start]
    here = first[start]
    while here != row[-1] and here != start:
        row.append(here)
        first, second = second, first
        here = first[here]
    return row


def _gain(before, after, row):
    """Return by how many links of `after` outnumber those of `before`."""
    gained = len([record for record in row if after[record] != record])
    lost = len([record for record in row if before[record] != record])
    # Each link was counted at both of its records.
    return (gained - lost) // 2


def _paired(start, length, skipped):
    """Return what `length` records from `start` on show if neighbours are pairs, as far as
    they go, behind the first `skipped` records."""
    names = list(range(start, start + length))
    for place in range(skipped, length - 1, 2):
        names[place] = start + place + 1
        names[place + 1] = start + place
    return names
