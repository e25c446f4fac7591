"""Shells: boards that are told what to do by lines of words."""

from forktold.boards import Board
from forktold.bounds import MAX_LEAVES
from forktold.errors import ForkError
from forktold.nests import is_forked
from forktold.trees import bush

FIGURES = "0123456789"
MAX_FIGURES = 31

# Which words are edits or ways back, and which ask; which of both take a lot.
EDIT_WORDS = ("put", "take", "merge", "split", "rename", "undo", "redo")
ASK_WORDS = ("tree", "nests", "fork", "parts", "forked")
LOT_WORDS = ("put", "merge", "split", "rename", "fork", "parts")


def words_of(line):
    """The words of a line, none for what is no line."""
    if not isinstance(line, str):
        return []
    words = line.split(" ")
    return [] if "" in words else words


def is_number(word):
    """Whether a word is a number."""
    if len(word) > MAX_FIGURES or not all([sign in FIGURES for sign in word]):
        return False
    return word == "0" or word[0] != "0"


def takes_so_many(word, many):
    """Whether so many numbers can stand behind a word."""
    if word in LOT_WORDS:
        return many > 0
    return many == (1 if word == "take" else 0)


def edit(board, word, numbers):
    """Let a board do what a word says; the version then."""
    if word == "put":
        return board.put(numbers)
    if word == "take":
        return board.take(numbers[0])
    if word == "merge":
        return board.merge(numbers)
    if word == "split":
        return board.split(numbers)
    if word == "rename":
        return board.rename(numbers)
    if word == "undo":
        return board.undo()
    return board.redo()


def lot_text(lot):
    """The leaves of a lot with a blank between."""
    return " ".join([str(leaf) for leaf in lot])


def ask(board, word, numbers):
    """What a board is, as a word asks."""
    if word == "tree":
        return str(board)
    if word == "nests":
        return str(len(board.tree[1]))
    if word == "fork":
        return lot_text(board.fork(numbers))
    if word == "parts":
        return " / ".join([lot_text(part) for part in board.parts(numbers)])
    return "yes" if is_forked(board.tree) else "no"


def answer(board, word, numbers):
    """What a board answers to a word and numbers."""
    try:
        if word in EDIT_WORDS:
            version = edit(board, word, numbers)
            return f"version {version}"
        return ask(board, word, numbers)
    except ForkError as error:
        return "no " + error.__class__.__name__


class Shell:
    """A board, from the first line "new" on, and answers to lines."""

    def __init__(self):
        self.board = None

    def say(self, line):
        """The answer to any value."""
        words = words_of(line)
        if not words:
            return "what"
        word = words[0]
        if word != "new" and word not in EDIT_WORDS and word not in ASK_WORDS:
            return "what"
        if word != "new" and self.board is None:
            return "no board"
        if not all([is_number(item) for item in words[1:]]):
            return "what"
        numbers = tuple([int(item) for item in words[1:]])
        if word == "new":
            return self.begin(numbers)
        if not takes_so_many(word, len(numbers)):
            return "what"
        return answer(self.board, word, numbers)

    def begin(self, numbers):
        """Take a new board, of a bush of so many leaves as the one number says."""
        if len(numbers) != 1 or numbers[0] < 1 or numbers[0] > MAX_LEAVES:
            return "what"
        self.board = Board(bush(numbers[0]))
        return "ok"
