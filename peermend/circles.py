"""Rows in which every block occurs once, their circles, and what no repair can do ([60] to [63])."""

from peermend.clashes import clash_between, renamed, rest_after

# An image and four rows each of two pairs of writers, as [63] asks for them: the least ones in
# which two slots exchange their blocks, and the least ones of single circles.
_SLOT_CROWD = (
    (0, 0, 2, 2),
    ((0, 1, 2, 3), (1, 0, 2, 3), (0, 1, 3, 2), (1, 0, 3, 2)),
    ((0, 3, 2, 1), (3, 0, 2, 1), (0, 3, 1, 2), (3, 0, 1, 2)),
)
_RING_CROWD = (
    (1, 0, 0, 2, 3, 3),
    ((1, 4, 0, 5, 3, 2), (4, 0, 1, 5, 3, 2), (1, 4, 0, 2, 5, 3), (4, 0, 1, 2, 5, 3)),
    ((1, 5, 0, 4, 2, 3), (5, 0, 1, 4, 2, 3), (1, 5, 0, 2, 3, 4), (5, 0, 1, 2, 3, 4)),
)


def circles_of(row):
    """Return the circles from each slot x to slot row[x], as lists of slots."""
    found = []
    seen = [False] * len(row)
    for slot in range(len(row)):
        circle = []
        here = slot
        while not seen[here]:
            seen[here] = True
            circle.append(here)
            here = row[here]
        if len(circle) > 0:
            found.append(circle)
    return found


def is_settled(row):
    """Tell whether every block occurs once."""
    return len(set(row)) == len(row)


def is_odd(row):
    """Tell whether the size minus the number of circles is odd."""
    return (len(row) - len(circles_of(row))) % 2 == 1


def circle_kind(before, after):
    """Return the ascending tuple of the numbers of slots of the circles of an update."""
    slots = [before.index(block) for block in after]
    return tuple(sorted([len(circle) for circle in circles_of(slots) if len(circle) > 1]))


def is_circle_kind(kind, size):
    """Tell whether circles of a row of the size can have these numbers of slots."""
    if list(kind) != sorted(kind) or sum(kind) > size:
        return False
    return all([length >= 2 for length in kind])


def lacks_one(row):
    """Tell whether exactly one block is missing, so that one occurs twice."""
    return len(set(row)) == len(row) - 1


def filled(row):
    """Return the rows in which the missing block is put where another one occurs twice: first
    into the lesser of the two slots, then into the greater. If none is missing there is one row.
    """
    missing = [block for block in range(len(row)) if block not in row]
    slots = [slot for slot, block in enumerate(row) if row.count(block) > 1]
    if len(missing) == 0:
        return [list(row)]
    return [row[:slot] + missing + row[slot + 1:] for slot in slots]


def with_names_exchanged(row):
    """Return the row in which the blocks 0 and 1 have exchanged their names.

    What is odd becomes even, and nothing else is altered about several such rows.
    """
    return _exchanged(row, 0, 1)


def slot_clash(kind, size):
    """Return a clash for a kind of a SlotBook that is not safe."""
    first = _turned(kind, size)
    if len(kind) == 1:
        return clash_between(first, _other_circle(kind[0], size))
    return clash_between(first, rest_after(first, list(range(kind[0]))))


def parity_clash(kind, size):
    """Return a clash for a kind of a ParityBook that is not safe; all of its rows are even."""
    first = _turned(kind, size)
    if len(kind) == 1:
        return clash_between(first, _other_circle(kind[0], size))
    places = [place for place, length in enumerate(kind) if length % 2 == 1]
    if len(places) > 0:
        start = sum(kind[:places[0]])
        return clash_between(first, rest_after(first, list(range(start, start + kind[places[0]]))))
    return clash_between(first, _other_circles(kind, first))


def ring_clash(length, size):
    """Return a clash for a number of slots that is not safe in a RingBook."""
    before = list(range(1, length)) + [0]
    after = [length - 1] + list(range(length - 1))
    # The circle and its reverse. With a stretch of it turned round, each slot still has a
    # neighbour that it had, and can show that.
    names = [0, 1] + list(range(length - 1, 1, -1))
    rows = [before, after, renamed(before, names), renamed(after, names)]
    first, last, one, other = [_lengthened(row, size) for row in rows]
    return clash_between((first, last), (one, other))


def slot_crowd(size):
    """Return two pairs of writers in one image, in which two slots exchange their blocks."""
    image, first, second = _SLOT_CROWD
    rest = list(range(len(image), size))
    return list(image) + rest, [list(row) + rest for row in first], [list(row) + rest for row in second]


def ring_crowd(size):
    """Return two pairs of writers in one image, all of whose rows are single circles."""
    image, first, second = _RING_CROWD
    return (
        _lengthened(image, size),
        [_lengthened(row, size) for row in first],
        [_lengthened(row, size) for row in second],
    )


def _turned(kind, size):
    """Return an update of the kind: the circles take consecutive slots, each turned by one."""
    before = list(range(size))
    after = []
    for length in kind:
        start = len(after)
        after.extend(before[start + 1:start + length] + [start])
    return before, after + before[len(after):]


def _other_circle(length, size):
    """Return an update that may have left the same image as `_turned` of a single circle.

    The image lacks the last block. So that may have its place anywhere in the circle, here
    before the last two blocks, which makes an even row, or before the last one if there is
    no room.
    """
    place = max(length - 3, 1)
    blocks = list(range(place)) + [length - 1] + list(range(place, length - 1))
    rest = list(range(length, size))
    return blocks + rest, blocks[1:] + blocks[:1] + rest


def _other_circles(kind, update):
    """Return an even update that may have left the same image as one of even circles only.

    The image lacks the last block of each circle, so two of these may be exchanged. That makes
    an odd row of an even one. So does turning one circle of an even number of circles later
    than the others, or earlier, and both together leave it even.
    """
    before, after = update
    length = kind[0]
    last = sum(kind) - 1
    first = before[:length] + after[length:]
    second = after[:length] + before[length:]
    return _exchanged(first, length - 1, last), _exchanged(second, length - 1, last)


def _exchanged(row, first, second):
    """Return the row in which two blocks have exchanged their names."""
    names = {first: second, second: first}
    return [names.get(block, block) for block in row]


def _lengthened(row, size):
    """Return the row with more slots, which every circle passes on its way to block 0."""
    length = len(row)
    if length == size:
        return list(row)
    ways = [0] + list(range(length, size - 1))
    return [size - 1 if block == 0 else block for block in row] + ways
