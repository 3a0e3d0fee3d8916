"""Journals: notes about changes that may have been under way ([72], [73])."""

from peermend.changes import check_change, sides
from peermend.images import check_image
from peermend.pieces import torn_pieces
from peermend.readings import change_of_piece


def line_fits(image, change):
    """Tell whether the image shows what the change may have left, and nothing else of it."""
    check_image(image)
    check_change(change, len(image))
    _, inside = change
    first, second = sides(change)
    for (record, one), (_, other) in zip(first, second):
        if image[record] not in (one, other):
            return False
    return all([record in inside or name not in inside for record, name in enumerate(image)])


def keep_lines(image, lines):
    """Return the numbers of the lines to keep, ascending."""
    # Only for its errors: which pieces there are does not matter to the lines.
    torn_pieces(image)
    return _most_apart(lines, [at for at, change in enumerate(lines) if line_fits(image, change)])


def hidden_writers(image, lines):
    """Return the number of torn pieces that no kept line tells of."""
    kept = _kept_by_record(image, lines)
    return len([word for word, records in torn_pieces(image) if records[0] not in kept])


def reading_with(image, lines):
    """Return the reading that consists of kept lines, as far as they tell of the torn pieces."""
    kept = _kept_by_record(image, lines)
    changes = []
    for word, records in torn_pieces(image):
        # A line that fits has all records of a group or none of them.
        changes.append(kept.get(records[0], change_of_piece((word, records))))
    return changes


def _kept_by_record(image, lines):
    """Return for each record in a kept line that line."""
    kept = [lines[at] for at in keep_lines(image, lines)]
    return {record: change for change in kept for record in change[1]}


def _most_apart(lines, numbers):
    """Return the largest choice of these lines of which no two overlap, the least such list."""
    if len(numbers) == 0:
        return []
    first, rest = numbers[0], numbers[1:]
    apart = [at for at in rest if not _overlap(lines[first], lines[at])]
    kept = [first] + _most_apart(lines, apart)
    if len(apart) == len(rest):
        return kept
    others = _most_apart(lines, rest)
    return kept if len(kept) >= len(others) else others


def _overlap(change, other):
    """Tell whether two changes have a record in common."""
    return any([record in other[1] for record in change[1]])
