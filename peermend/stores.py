"""Stores of plain cells, and how many lies and blanks they bear ([49] to [56])."""

from itertools import combinations

from peermend.changes import changes_from, states, update_by
from peermend.errors import Ambiguous, InvalidNumber, InvalidStore, NoStory


class Store:
    """Cells, and the stories of which one happens to them."""

    def __init__(self, width, *stories):
        for at, story in enumerate(stories):
            if not all([_is_row(row, width) for row in story]):
                raise InvalidStore(at)
        self.width = width
        self._stories = [(list(before), list(after)) for before, after in stories]
        self._apart = _stories_apart(self._stories)

    def __len__(self):
        return len(self._stories)

    def story(self, number):
        """Return the story with the number."""
        if number < 0 or number >= len(self._stories):
            raise InvalidNumber(number)
        before, after = self._stories[number]
        return list(before), list(after)

    def limits(self):
        """Return the least numbers of cells at which pairs and triangles are parted."""
        found = [(len(numbers), len(cells)) for numbers, cells in self._apart]
        pair = min([many for stories, many in found if stories == 2], default=None)
        triangle = min([many for stories, many in found if stories == 3], default=None)
        return pair, triangle

    def bears(self, *, lies=0, blanks=0):
        """Tell whether the stories that fit a picture always have a common row."""
        return self.confusion(lies=lies, blanks=blanks) is None

    def fitting(self, picture, *, lies=0):
        """Return the numbers of the stories that fit the picture."""
        return [at for at, story in enumerate(self._stories) if _lies_of(story, picture) <= lies]

    def restore(self, picture, *, lies=0):
        """Return the least row that is common to all stories that fit the picture."""
        numbers = self.fitting(picture, lies=lies)
        if len(numbers) == 0:
            raise NoStory()
        rows = _common_rows([self._stories[at] for at in numbers])
        if len(rows) == 0:
            raise Ambiguous(numbers)
        return list(min(rows))

    def confusion(self, *, lies=0, blanks=0):
        """Return a picture that stories without a common row fit, with their numbers, or None."""
        for numbers, cells in self._apart:
            if len(cells) < _needed(numbers, lies, blanks):
                stories = [self._stories[at] for at in numbers]
                return _picture(stories, self.width, lies), list(numbers)
        return None

    def copies(self, *, lies=0, blanks=0):
        """Return how many copies of all cells make the store bear the lies and blanks, or None."""
        most = 1
        for numbers, cells in self._apart:
            if len(cells) == 0:
                return None
            # Rounded up: the copies of the parted cells together are as many as are needed.
            copies = (_needed(numbers, lies, blanks) + len(cells) - 1) // len(cells)
            most = max(most, copies)
        return most

    def doubled(self, *, lies=0, blanks=0):
        """Return the cells of which a second copy makes the store bear them, or None."""
        lacking = {}
        for numbers, cells in self._apart:
            many = _needed(numbers, lies, blanks) - len(cells)
            if many > lacking.get(cells, 0):
                lacking[cells] = many
        for length in range(self.width + 1):
            for second in combinations(range(self.width), length):
                if _suffices(second, lacking):
                    return list(second)
        return None

    @classmethod
    def of_table(cls, size):
        """Return the store of a table: its states at rest and the changes between them."""
        resting = list(states(size))
        stories = [(state, state) for state in resting]
        for state in resting:
            reached = [update_by(state, change).after for change in changes_from(state)]
            stories.extend([(state, after) for after in sorted(reached) if state < after])
        return cls(size, *stories)


def _is_row(row, width):
    """Tell whether the row has so many entries, all from 0 on."""
    return len(row) == width and all([entry >= 0 for entry in row])


def _lies_of(story, picture):
    """Return how many cells of the picture must be falsified if the story happened."""
    before, after = story
    wrong = [shown for shown, old, new in zip(picture, before, after) if shown not in (None, old, new)]
    return len(wrong)


def _common_rows(stories):
    """Return the rows that are `before` or `after` of each of the stories."""
    return [row for row in stories[0] if all([row in story for story in stories])]


def _needed(numbers, lies, blanks):
    """Return at how many cells these stories must be parted, so that none of them is taken for
    another: each of them may have all the lies against it, and the blanks hide from all."""
    return blanks + len(numbers) * lies + 1


def _shared(stories, cell):
    """Return the least integer that all the stories have at the cell, or None if they are parted.

    A triangle is parted exactly if it has none: two of its rows with the same integer there
    are in all three stories together.
    """
    first, second = stories[0]
    found = []
    for entry in (first[cell], second[cell]):
        if all([entry in (before[cell], after[cell]) for before, after in stories]):
            found.append(entry)
    return min(found, default=None)


def _stories_apart(stories):
    """Return the pairs without a common row and the triangles, with the cells that part them.

    Each is a tuple (numbers of the stories, cells). Stories that have the same two rows stand
    for each other, so only the first of them is taken.
    """
    kept = {}
    for at, (before, after) in enumerate(stories):
        low, high = min(before, after), max(before, after)
        kept.setdefault((tuple(low), tuple(high)), at)
    found = []
    for one, other in combinations(list(kept), 2):
        shared = [row for row in one if row in other]
        if len(shared) == 0:
            found.append((kept[one], kept[other]))
        else:
            # Each triangle is met once from each side, and is taken where its last one is missing.
            # Beside a row at rest only one row remains, and no story has that as its key.
            third = tuple(sorted([row for row in one + other if row != shared[0]]))
            if kept.get(third, -1) > kept[other]:
                found.append((kept[one], kept[other], kept[third]))
    return [(numbers, _parting_cells(stories, numbers)) for numbers in found]


def _parting_cells(stories, numbers):
    """Return the cells at which these stories are parted."""
    chosen = [stories[at] for at in numbers]
    return tuple([cell for cell in range(len(chosen[0][0])) if _shared(chosen, cell) is None])


def _picture(stories, width, lies):
    """Return a picture that all the stories fit, with as few blank cells as the lies allow."""
    picture = []
    parted = 0
    for cell in range(width):
        shown = _shared(stories, cell)
        if shown is None:
            # Each of the first of these cells is a lie about one of the stories, and shows what
            # the rest of them have in common.
            if parted < lies * len(stories):
                against = parted // lies
                shown = _shared(stories[:against] + stories[against + 1:], cell)
            parted += 1
        picture.append(shown)
    return picture


def _suffices(second, lacking):
    """Tell whether second copies of these cells part all the stories that lack parting cells."""
    for cells, many in lacking.items():
        if len([cell for cell in cells if cell in second]) < many:
            return False
    return True
