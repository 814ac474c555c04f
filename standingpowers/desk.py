"""The desk, on which systems are kept by name and edited (section 14 of the document)."""

from standingpowers.bases import divided
from standingpowers.errors import DuplicateName, NoEquation, UnknownName
from standingpowers.papers import Paper, paper_of
from standingpowers.systems import System

ORDER = "degree"


class Desk:
    """Systems by name, with the edits that can be undone and done again."""

    def __init__(self):
        self.made = 0
        # What the desk has under a name is a pair of a space and a tuple of
        # equations, and None if there is no system. Such pairs never change,
        # so an edit is kept as its name and the pairs before it and behind it.
        self._sheets = {}
        self._papers = {}
        self._done = []
        self._undone = []

    def begin(self, name, space):
        """Begin a system without equations; changes the desk."""
        if name in self._sheets:
            raise DuplicateName(f"there is a system {name} already")
        self._edit(name, None, (space, ()))

    def add(self, name, one):
        """Put an equation behind the others of a system; changes the desk."""
        space, equations = self._sheet(name)
        self._edit(name, (space, equations), (space, equations + (one,)))

    def drop(self, name, index):
        """Take the equation with an index out of a system; changes the desk."""
        space, equations = self._sheet(name)
        if not 0 <= index < len(equations):
            raise NoEquation(f"the system {name} has no equation {index}")
        self._edit(name, (space, equations), (space, equations[:index] + equations[index + 1:]))

    def close(self, name):
        """Take a system away; changes the desk."""
        self._edit(name, self._sheet(name), None)

    def undo(self):
        """Take back the last edit that stands, and tell whether there was one; changes the desk."""
        if not self._done:
            return False
        edit = self._done.pop()
        name, before, behind = edit
        self._put(name, before)
        self._undone.append(edit)
        return True

    def redo(self):
        """Do again the edit that was taken back last, and tell whether there was one; changes the desk."""
        if not self._undone:
            return False
        edit = self._undone.pop()
        name, before, behind = edit
        self._put(name, behind)
        self._done.append(edit)
        return True

    def names(self):
        """The names of the systems, ascending."""
        return sorted(self._sheets)

    def system(self, name):
        """The system with a name, as it is now."""
        space, equations = self._sheet(name)
        return System(space, equations)

    def paper(self, name):
        """The paper of a system."""
        kept = self._kept_paper(name)
        # A copy, so that nobody else has the lists of the one that is kept.
        return Paper(kept.order, kept.rows, kept.points)

    def count(self, name):
        """The number of solutions of a system."""
        return len(self._kept_paper(name).points)

    def follows(self, name, one):
        """Whether a polynomial follows from a system."""
        return self.remainder(name, one) == ()

    def remainder(self, name, one):
        """The remainder of a polynomial by the basis of a system."""
        rows = self._kept_paper(name).rows
        space, equations = self._sheet(name)
        quotients, left = divided(space, one, [polynomial for polynomial, factors in rows], ORDER)
        return left

    def _sheet(self, name):
        """The space and the equations of a system."""
        if name not in self._sheets:
            raise UnknownName(f"there is no system {name}")
        return self._sheets[name]

    def _kept_paper(self, name):
        """The paper of a system, which is made if there is none; changes what the desk keeps."""
        space, equations = self._sheet(name)
        if name not in self._papers:
            self._papers[name] = paper_of(System(space, equations), ORDER)
            self.made += 1
        return self._papers[name]

    def _edit(self, name, before, behind):
        """Do an edit and keep it; changes the desk."""
        self._put(name, behind)
        self._done.append((name, before, behind))
        self._undone.clear()

    def _put(self, name, sheet):
        """Let the desk have a pair or None under a name; changes the desk."""
        self._papers.pop(name, None)
        if sheet is None:
            del self._sheets[name]
        else:
            self._sheets[name] = sheet
