"""The errors of the program. Numbers in brackets are the points of the document."""


class MendError(ValueError):
    """The base class of all errors of the program."""


class InvalidSize(MendError):
    """The size is below the least size of the book ([57])."""

    def __init__(self, size):
        self.size = size


class InvalidImage(MendError):
    """The first index of an image whose entry is not a record of the table ([2])."""

    def __init__(self, record):
        self.record = record


class NotState(MendError):
    """The first record of an image that is not named by the record that it names ([4])."""

    def __init__(self, record):
        self.record = record


class Unrepairable(MendError):
    """The first group of an image that is not a piece, ascending ([6])."""

    def __init__(self, group):
        self.group = _own(group)


class InvalidRecord(MendError):
    """The record is not one of those that may be given here ([11], [22], [66], [68])."""

    def __init__(self, record):
        self.record = record


class Busy(MendError):
    """The record belongs to two writers or changes at once ([13], [37], [65])."""

    def __init__(self, record):
        self.record = record


class Written(MendError):
    """The writer has written the record already ([66])."""

    def __init__(self, record):
        self.record = record


class NotReady(MendError):
    """A record of an earlier batch must be written before this one ([66])."""

    def __init__(self, record):
        self.record = record


class InvalidNumber(MendError):
    """Nothing has this number."""

    def __init__(self, value):
        self.value = value


class InvalidRules(MendError):
    """The rules have no choice of this name, or the choice has no such word ([20])."""

    def __init__(self, name):
        self.name = name


class InvalidStore(MendError):
    """The number of the first story with a row that does not suit the store ([49])."""

    def __init__(self, at):
        self.at = at


class Ambiguous(MendError):
    """The stories with these numbers fit, but no row is common to them ([51])."""

    def __init__(self, numbers):
        self.numbers = _own(numbers)


class NoWriter(MendError):
    """No writer that is open has this number ([66], [69])."""

    def __init__(self, writer):
        self.writer = writer


class Unsafe(MendError):
    """The rules of the desk do not bear the order of an update of this kind ([65])."""

    def __init__(self, refused):
        self.refused = refused


class UnequalSizes(MendError):
    """Two tables have different lengths ([2])."""


class InvalidUpdate(MendError):
    """The updates do not go together, or the update does not suit the table ([13], [65])."""


class InvalidKind(MendError):
    """The tuple is not a kind ([15], [57])."""


class InvalidChange(MendError):
    """The change is not valid, or the table is at neither of its sides ([17], [18])."""


class InvalidOrder(MendError):
    """The lists are not an order or a sequence of the update ([41], [47])."""


class NoStory(MendError):
    """No story of the store fits the picture ([51])."""


class NotInBook(MendError):
    """The row is not a state of the book ([57])."""


class Down(MendError):
    """The desk is down ([65] to [67])."""


class NotDown(MendError):
    """The desk is up ([68])."""


class NothingToUndo(MendError):
    """No deed is left that can be taken back ([70])."""


class NothingToRedo(MendError):
    """No deed is left that can be done again ([70])."""


def _own(given):
    # An error keeps what was so when it was raised, whatever becomes of the caller's list.
    if isinstance(given, list):
        return list(given)
    return given
