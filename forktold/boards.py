"""Boards: trees that are edited, with the way back."""

from forktold.edits import batched, merge_nest, put_lot, rename_leaves, split_lot, take_leaf
from forktold.errors import Changed, ForkError
from forktold.looks import fork_of, nest_at, parts_of
from forktold.lots import all_leaves
from forktold.nests import is_nest
from forktold.renames import same_shape
from forktold.stories import begun, edited, redone, tree_when, undone
from forktold.texts import tree_text


class Board:
    """A tree that can be edited."""

    def __init__(self, value):
        self._story = begun(value)

    @property
    def tree(self):
        """The tree as it is now."""
        return self._story.now

    @property
    def version(self):
        """How many edits stand."""
        return len(self._story.past) - 1

    def __len__(self):
        return len(all_leaves(self._story.now[0]))

    def __getitem__(self, index):
        return nest_at(self._story.nests, index)

    def __contains__(self, value):
        return is_nest(self._story.now, value)

    def __iter__(self):
        return iter(self._story.nests)

    def __str__(self):
        return str(tree_text(self._story.now))

    def __eq__(self, other):
        return isinstance(other, Board) and self.tree == other.tree

    def fork(self, lot):
        """The fork of a lot."""
        return fork_of(self._story.now, lot)

    def parts(self, lot):
        """The parts of a nest."""
        return parts_of(self._story.now, lot)

    def _edit(self, tree):
        """Let an edit lead to a tree; the new version."""
        return self._go_on(edited(self._story, tree))

    def _go_on(self, story):
        """Go on with a story; the version then."""
        self._story = story
        return self.version

    def put(self, lot):
        """Put a leaf in at a lot."""
        return self._edit(put_lot(self.tree, lot))

    def take(self, leaf):
        """Take a leaf out."""
        return self._edit(take_leaf(self.tree, leaf))

    def merge(self, lot):
        """Merge a nest with the one around it."""
        return self._edit(merge_nest(self.tree, lot))

    def split(self, lot):
        """Split a lot off as a nest."""
        return self._edit(split_lot(self.tree, lot))

    def rename(self, naming):
        """Name all leaves anew."""
        return self._edit(rename_leaves(self.tree, naming))

    def batch(self, edits):
        """Do several edits as one."""
        return self._edit(batched(self.tree, edits))

    def undo(self):
        """Take the last edit back."""
        return self._go_on(undone(self._story))

    def redo(self):
        """Do the edit again that was taken back last."""
        return self._go_on(redone(self._story))

    def at(self, version):
        """The tree when so many edits stood."""
        return tree_when(self._story, version)

    def news(self):
        """The nests that the last edit, undo or redo took, and those that it brought."""
        return self._story.told

    def copy(self):
        """A board of its own with all that this one has."""
        other = Board(self.tree)
        other._story = self._story
        return other

    def attempt(self, work):
        """The result of work with this board, all taken back if an error of this package comes out of it."""
        story = self._story
        try:
            return work(self)
        except ForkError:
            self._story = story
            raise


class KeptBoard(Board):
    """A board whose shape stays.

    The language asks that what the interface lists for a class stands in the
    class itself: so all that a board can do is written here once more, though
    only _edit and copy do anything else than in Board.
    """

    def __init__(self, value):
        Board.__init__(self, value)

    @property
    def tree(self):
        """The tree as it is now."""
        return self._story.now

    @property
    def version(self):
        """How many edits stand."""
        return len(self._story.past) - 1

    def __len__(self):
        return len(all_leaves(self._story.now[0]))

    def __getitem__(self, index):
        return nest_at(self._story.nests, index)

    def __contains__(self, value):
        return is_nest(self._story.now, value)

    def __iter__(self):
        return iter(self._story.nests)

    def __str__(self):
        return str(tree_text(self._story.now))

    def __eq__(self, other):
        return isinstance(other, Board) and self.tree == other.tree

    def fork(self, lot):
        """The fork of a lot."""
        return super().fork(lot)

    def parts(self, lot):
        """The parts of a nest."""
        return super().parts(lot)

    def _edit(self, tree):
        """Let an edit lead to a tree of the same shape; the new version."""
        if not same_shape(self.tree, tree):
            raise Changed(all_leaves(tree[0]))
        return super()._edit(tree)

    def put(self, lot):
        """Put a leaf in at a lot."""
        return super().put(lot)

    def take(self, leaf):
        """Take a leaf out."""
        return super().take(leaf)

    def merge(self, lot):
        """Merge a nest with the one around it."""
        return super().merge(lot)

    def split(self, lot):
        """Split a lot off as a nest."""
        return super().split(lot)

    def rename(self, naming):
        """Name all leaves anew."""
        return super().rename(naming)

    def batch(self, edits):
        """Do several edits as one."""
        return super().batch(edits)

    def undo(self):
        """Take the last edit back."""
        return super().undo()

    def redo(self):
        """Do the edit again that was taken back last."""
        return super().redo()

    def at(self, version):
        """The tree when so many edits stood."""
        return super().at(version)

    def news(self):
        """The nests that the last edit, undo or redo took, and those that it brought."""
        return super().news()

    def copy(self):
        """A board of its own with all that this one has."""
        other = KeptBoard(self.tree)
        other._story = self._story
        return other

    def attempt(self, work):
        """The result of work with this board, all taken back if an error of this package comes out of it."""
        return super().attempt(work)
