"""The pieces of an image and its census ([6], [7])."""

from peermend.errors import Unrepairable
from peermend.images import groups

WORDS = ("free", "pair", "claim", "hook", "relay", "clamp", "trail", "wheel")

_WHOLE = ("free", "pair")

# The key tells what the records show, as places in the listed order: in a relay (c, a, b)
# c shows the record at place 1, a the one at place 2, and so does b.
_FORMS = {
    (0,): "free",
    (1, 0): "pair",
    (1, 1): "claim",
    (1, 2, 1): "hook",
    (1, 2, 2): "relay",
    (1, 2, 1, 2): "clamp",
    (1, 2, 3, 2): "trail",
    (1, 2, 3, 0): "wheel",
}


def pieces(image):
    """Return the pieces as tuples (word, records), ordered as the groups."""
    found = []
    for group in groups(image):
        piece = _piece_of(image, group)
        if piece is None:
            raise Unrepairable(group)
        found.append(piece)
    return found


def is_repairable(image):
    """Tell whether each group is a piece."""
    return all([_piece_of(image, group) is not None for group in groups(image)])


def census(image):
    """Return for each word the number of pieces with that word."""
    counts = {word: 0 for word in WORDS}
    for word, _ in pieces(image):
        counts[word] += 1
    return counts


def torn_pieces(image):
    """Return the pieces that are neither free records nor pairs."""
    return [piece for piece in pieces(image) if piece[0] not in _WHOLE]


def _piece_of(image, group):
    """Return the group as (word, records), or None if it has none of the forms."""
    records = _row_of(image, group)
    shape = tuple([records.index(image[record]) for record in records])
    word = _FORMS.get(shape)
    if word is None:
        return None
    return (word, tuple(records))


def _row_of(image, group):
    """Return the records of a group in the order in which its form lists them.

    Each form is listed from a record that no other record shows, or from the least record
    if there is none, along the names. Only in a clamp the walk misses a record, the greater
    one of its two tails, which is listed last.
    """
    shown = [image[record] for record in group]
    tails = [record for record in group if record not in shown]
    here = tails[0] if tails else group[0]
    row = []
    while here not in row:
        row.append(here)
        here = image[here]
    return row + [record for record in group if record not in row]
