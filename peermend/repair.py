"""The repair of an image, whole or in part ([21] to [24])."""

from peermend.errors import InvalidRecord
from peermend.pieces import torn_pieces
from peermend.rules import Rules, or_standard

# What the records of a torn piece show after the first choice and after the second one, as
# places in their listed order. No repair makes the second choice at a claim, which leaves both
# records free, but a right state may show it ([25]).
_CHOICES = {
    "claim": ((1, 0), (0, 1)),
    "hook": ((0, 2, 1), (1, 0, 2)),
    "relay": ((1, 0, 2), (0, 2, 1)),
    "clamp": ((1, 0, 3, 2), (3, 2, 1, 0)),
    "trail": ((1, 0, 3, 2), (3, 2, 1, 0)),
    "wheel": ((1, 0, 3, 2), (3, 2, 1, 0)),
}

# The least image with each torn piece about which rules can disagree, least first ([24]).
_PARTING = (
    ("relay", (0, 0, 1)),
    ("hook", (1, 0, 0)),
    ("clamp", (1, 0, 0, 1)),
    ("trail", (1, 0, 0, 2)),
    ("wheel", (1, 2, 3, 0)),
)


def repair(image, rules=None):
    """Return the repair of a repairable image."""
    rules = or_standard(rules)
    state = list(image)
    for word, records in torn_pieces(image):
        for record, name in choices(word, records)[_chosen(rules, word)]:
            state[record] = name
    return state


def writes(image, rules=None):
    """Return the records whose names differ between the image and its repair, ascending."""
    state = repair(image, rules)
    return [record for record, name in enumerate(image) if name != state[record]]


def torn_repair(image, *done, rules=None):
    """Return the image in which exactly the given records are already repaired."""
    allowed = writes(image, rules)
    for record in done:
        if record not in allowed:
            raise InvalidRecord(record)
    state = repair(image, rules)
    return [state[record] if record in done else name for record, name in enumerate(image)]


def unsteady(rules=None):
    """Return None for steady rules, otherwise (image, done) with a torn repair that goes wrong."""
    rules = or_standard(rules)
    if rules.hook == "forward":
        # The hook (2, 0, 1), half repaired, is the hook (1, 0, 2), which frees record 2, not 1.
        return [1, 0, 0], [0]
    if rules.trail == "far":
        # The trail (0, 1, 2, 3), half repaired, is the trail (0, 3, 2, 1), whose far pairs are
        # the near pairs of the first one.
        return [1, 2, 3, 2], [0, 2]
    return None


def parting(first, second):
    """Return the least image whose repairs by the two rules differ, or None."""
    one = or_standard(first)
    other = or_standard(second)
    for name, image in _PARTING:
        if one.choice(name) != other.choice(name):
            return list(image)
    return None


def choices(word, records):
    """Return what a torn piece shows after the first choice and after the second one, as
    lists of tuples (record, name)."""
    found = []
    for places in _CHOICES[word]:
        found.append([(record, records[place]) for record, place in zip(records, places)])
    return found


def _chosen(rules, word):
    """Return 1 if the rules make the second choice at the piece, otherwise 0."""
    if word not in Rules.NAMES:
        # The rules have no choice at a claim.
        return 0
    return rules.number >> Rules.NAMES.index(word) & 1
