"""Trials: blocks at whose end a site is as at the beginning, unless they are kept."""


class History:
    """The book of a site as it is now, the books before and behind it, what was done, and the blocks in progress."""

    def __init__(self, book):
        self.now = book
        self.undos = []
        self.redos = []
        self.marks = []
        self.level = 0
        # None within a block in which there was an edit, otherwise True.
        self.unedited = True

    def edit(self, book):
        """Makes another book the present one."""
        if self.level > 0:
            self.unedited = None
        else:
            self.undos.append(self.now)
            self.redos.clear()
        self.now = book
        self.marks.append(("edit", len(book)))

    def step_back(self, count):
        """Undoes so many edits."""
        for _ in range(count):
            self.redos.append(self.now)
            self.now = self.undos.pop()
        self.marks.append(("undo", count))

    def step_forth(self, count):
        """Redoes so many edits."""
        for _ in range(count):
            self.undos.append(self.now)
            self.now = self.redos.pop()
        self.marks.append(("redo", count))


class Trial:
    """One block. What it needs at its end is put ready at its beginning."""

    def __init__(self, site, history):
        self.site = site
        self.history = history
        self.undos = history.undos
        self.redos = history.redos
        self.marks = history.marks
        self.level = 0
        self.begin = None
        self.unedited = True
        # True for a block within another one, and for a block that is to be kept; otherwise None.
        self.inner = None
        self.kept = None

    def keep(self):
        """Lets the edits of the block stand."""
        self.kept = True

    def __enter__(self):
        history = self.history
        self.level = history.level
        self.begin = history.now
        self.unedited = history.unedited
        self.inner = True if history.level > 0 else None
        history.level = history.level + 1
        return self.site

    def __exit__(self, kind, value, trace):
        history = self.history
        history.level = self.level
        if self.kept is None or kind is not None:
            self.marks.append(("trial", False))
            history.now = self.begin
            history.unedited = self.unedited
        else:
            self.marks.append(("trial", True))
            if self.inner is None and history.unedited is None:
                self.undos.append(self.begin)
                self.redos.clear()
                history.unedited = True
