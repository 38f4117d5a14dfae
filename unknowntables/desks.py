"""A desk, at which a formula is taken and asked for, line by line (point 15)."""

from unknowntables.errors import InvalidText, NothingToUndo, NotNow
from unknowntables.formulas import is_row, is_sure, letters_of, table, value
from unknowntables.logics import check_logic
from unknowntables.texts import check_text, read_formula, write_formula


class Desk:
    """A logic, and the formulas that were taken and not taken back; the last one is kept."""

    def __init__(self, logic):
        check_logic(logic)
        self._logic = logic
        self._taken = []

    @property
    def formula(self):
        """The formula that is kept, None for none."""
        return self._taken[-1] if self._taken else None

    @property
    def letters(self):
        """The letters of the formula, ascending; none if there is no formula."""
        return letters_of(self._taken[-1]) if self._taken else ()

    def run(self, line):
        """Carry out a line: take a formula, or answer for the one that is kept."""
        check_text(line)
        word, space, rest = line.partition(" ")
        if word == "take":
            self._taken.append(read_formula(rest))
            return None
        if line not in ("formula", "table", "sure") and word != "row":
            raise InvalidText("no such line")
        if not self._taken:
            raise NotNow("no formula is taken")
        if word == "row":
            return self._row_answer(space, tuple(rest))
        return self._told_by(word)

    def _row_answer(self, space, row):
        """The answer of the formula for a row, which a space has to part from the word."""
        if not space or not is_row(self.letters, row):
            raise InvalidText("a row has an answer for each letter of the formula")
        return value(self._logic, self.formula, row)

    def _told_by(self, word):
        """What a word alone asks of the formula."""
        if word == "formula":
            return write_formula(self.formula)
        if word == "table":
            return "".join(table(self._logic, self.formula))
        return "yes" if is_sure(self._logic, self.formula) else "no"

    def undo(self):
        """Take the last taken formula back."""
        if not self._taken:
            raise NothingToUndo("no formula is taken")
        self._taken.pop()
