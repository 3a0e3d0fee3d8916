"""Orders of writes, and which of them the rules bear ([41] to [48])."""

from peermend.clashes import SAFE_KINDS
from peermend.errors import InvalidOrder, Unrepairable
from peermend.repair import repair
from peermend.rules import or_standard
from peermend.updates import Update, sample

# No rules bear an order of an update with more records ([45]).
_MOST_RECORDS = 7

_LONG_CHAINS = (
    (("chain", 4, -1),),
    (("chain", 4, 1),),
    (("chain", 5, 0),),
    (("chain", 6, -1),),
    (("chain", 6, 1),),
    (("chain", 7, 0),),
)


def check_order(update, order):
    """Raise InvalidOrder unless each record of the update stands once in one of the batches."""
    written = [record for batch in order for record in batch]
    if sorted(written) != update.records or any([len(batch) == 0 for batch in order]):
        raise InvalidOrder()


def order_images(update, order):
    """Yield the images of an order, each once."""
    check_order(update, order)
    earlier = []
    for batch in order:
        for chosen in range((1 << len(batch)) - 1):
            done = earlier + _members(sorted(batch), chosen)
            yield update.torn(*done)
        earlier.extend(batch)
    yield list(update.after)


def wrong_image(update, order, rules=None):
    """Return the first image of the order that is not repaired to a state of the update, or None."""
    for image in order_images(update, order):
        if _verdict(update, image, rules) == "other":
            return image
    return None


def is_borne(update, order, rules=None):
    """Check the order of an update of any size, and tell whether the rules bear it."""
    check_order(update, order)
    return len(update) <= _MOST_RECORDS and wrong_image(update, order, rules) is None


def best_order(update, rules=None):
    """Return an order with the fewest batches among those that the rules bear, or None."""
    records = update.records
    if len(records) > _MOST_RECORDS:
        return None
    alone = _alone(update)
    borne = [_verdict(alone, image, rules) != "other" for image in alone.torn_images()]
    batches = _fewest_batches(borne)
    if batches is None:
        return None
    return [_members(records, batch) for batch in batches]


def least_flushes(kind, rules=None):
    """Return the number of flushes of a best order of an update of the kind, or None."""
    order = best_order(sample(kind), rules)
    if order is None:
        return None
    return max(len(order) - 1, 0)


def bearable(rules=None):
    """Return the kinds of updates with an order that the rules bear, each with its flushes."""
    found = []
    for kind in SAFE_KINDS + _LONG_CHAINS:
        flushes = least_flushes(kind, rules)
        if len(kind) > 0 and flushes is not None:
            found.append((kind, flushes))
    return sorted(found)


def verdicts(update, sequence, rules=None):
    """Return "before", "after" or "other" for each number of writes of the sequence."""
    if sorted(sequence) != update.records:
        raise InvalidOrder()
    words = []
    for many in range(len(sequence) + 1):
        done = sequence[:many]
        words.append(_verdict(update, update.torn(*done), rules))
    return words


def unfinal(rules=None):
    """Return None for final rules, otherwise (update, order, sequence) with a commit taken back."""
    rules = or_standard(rules)
    if rules.hook == "forward":
        # The hook (2, 0, 1) is repaired to `after`, and the hook (1, 0, 2) behind it is not.
        return Update([1, 0, 2], [2, 1, 0]), [[0, 1, 2]], [2, 0, 1]
    if rules.trail == "far":
        # The trail (0, 1, 2, 3) is repaired to `after`, and the trail (0, 3, 2, 1), two writes
        # behind it, is not.
        return Update([1, 0, 3, 2], [3, 2, 1, 0]), [[0, 1, 2, 3]], [1, 0, 2, 3]
    return None


def _verdict(update, image, rules):
    """Return the word for the state to which the image is repaired."""
    try:
        state = repair(image, rules)
    except Unrepairable:
        return "other"
    if state == update.before:
        return "before"
    return "after" if state == update.after else "other"


def _members(records, number):
    """Return the records whose bits are set in the number."""
    return [record for at, record in enumerate(records) if number >> at & 1]


def _alone(update):
    """Return the update in a table that has its records only."""
    records = update.records
    before = [records.index(update.before[record]) for record in records]
    after = [records.index(update.after[record]) for record in records]
    return Update(before, after)


def _fewest_batches(borne):
    """Return the batches of a best order, or None.

    Records that are written, or stand in a batch, are the bits of a number, and borne[number]
    tells whether the image with these records written is repaired to a state of the update.
    """
    every = len(borne) - 1
    ways = {0: []}
    layer = [0]
    while every not in ways and len(layer) > 0:
        reached = []
        for written in layer:
            for batch in range(1, every + 1):
                after = written | batch
                if written & batch == 0 and after not in ways and _bears(borne, written, batch):
                    ways[after] = ways[written] + [batch]
                    reached.append(after)
        layer = reached
    return ways.get(every)


def _bears(borne, written, batch):
    """Tell whether every part of the batch may be on the disk, behind what is written."""
    return all([borne[written | (chosen & batch)] for chosen in range(batch + 1)])
