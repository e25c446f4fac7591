"""Stories: which trees a board had, has, and can have again."""

from forktold.bounds import MAX_EDITS
from forktold.errors import NothingToRedo, NothingToUndo, NotTree, NoVersion, TooManyEdits
from forktold.lots import is_below
from forktold.several import alone
from forktold.trees import tree_error


class Story:
    """The trees of a board; a story never changes, so that one can be kept and come back to."""

    def __init__(self, past, ahead, told):
        # The trees from the first one to that of now, one for each version;
        # those that were taken back, the next one to be done again last; the
        # nests that the last change took and brought.
        self.past = past
        self.ahead = ahead
        self.told = told
        self.now = past[-1]
        self.nests = past[-1][1]


def begun(value):
    """The story that begins with a value, if this is a tree."""
    error = tree_error(value)
    if error is not None:
        raise NotTree(error)
    return Story((value,), (), ((), ()))


def changed(story, past, ahead):
    """The story that goes on with these trees."""
    return Story(past, ahead, (alone(story.now, past[-1]), alone(past[-1], story.now)))


def edited(story, tree):
    """The story with one edit more, which leads to a tree."""
    if len(story.past) > MAX_EDITS:
        raise TooManyEdits()
    return changed(story, (*story.past, tree), ())


def undone(story):
    """The story with its last edit taken back."""
    if len(story.past) == 1:
        raise NothingToUndo()
    return changed(story, story.past[:-1], (*story.ahead, story.now))


def redone(story):
    """The story with the edit done again that was taken back last."""
    if len(story.ahead) == 0:
        raise NothingToRedo()
    return changed(story, (*story.past, story.ahead[-1]), story.ahead[:-1])


def tree_when(story, version):
    """The tree when so many edits stood."""
    if not is_below(len(story.past), version):
        raise NoVersion(version)
    return story.past[version]
