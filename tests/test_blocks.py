"""Blocks of sites [50]: trials, attempts, what is kept and taken back, and the log."""

import unittest

from onestroke.bodies import Body, Go, Press, Say
from onestroke.books import Book
from onestroke.errors import Endless, InTrial, OutOfRange, TooBig, Unlike
from onestroke.sites import LoggedSite, Site
from values import NO_INTEGERS, refused
import plain


def example():
    return Book("m", ["m"], {
        ("m", "k"): Body(Go("n")), ("n", "a"): Body(Say("x"), Say("y"), Go("m")), ("n", "b"): Body(Say("x"), Say("z"), Go("m"))})


class Fault(Exception):
    """An error of a caller."""


class Model:
    """First modes in the place of books: what is now, before and behind; and the log."""

    def __init__(self, now):
        self.now = now
        self.undos = []
        self.redos = []
        self.log = []
        self.blocks = []

    def edit(self, mode):
        if not self.blocks:
            self.undos.append(self.now)
            self.redos = []
        else:
            self.blocks[-1][1] = True
        self.now = mode
        self.log.append(("edit", 3))

    def begin(self):
        self.blocks.append([self.now, False])

    def end(self, kept):
        now, edited = self.blocks.pop()
        self.log.append(("trial", kept))
        if not kept:
            self.now = now
        elif edited and self.blocks:
            self.blocks[-1][1] = True
        elif edited:
            self.undos.append(now)
            self.redos = []


class Drawn(unittest.TestCase):

    def same(self, site, model):
        self.assertEqual((site.first, site.depth), (model.now, len(model.blocks)))
        self.assertEqual((site.undoable, site.redoable, site.log), (len(model.undos), len(model.redos), tuple(model.log)))

    def some(self, draw, site, model, depth):
        """Some edits, undos and blocks within one another; an error may leave all blocks."""
        for _ in range(draw.randint(0, 4)):
            kind = draw.randrange(8)
            if kind < 3:
                mode = draw.choice("mnopqr")
                site.set_first(mode)
                model.edit(mode)
            elif kind == 3:
                with self.assertRaises(TooBig):
                    site["m", "z"] = Body(Say("x"), Say("x"), Say("x"))
            elif kind == 4:
                self.some_undo(draw, site, model)
            elif depth < 4:
                self.some_block(draw, site, model, depth)
            self.same(site, model)

    def some_undo(self, draw, site, model):
        name = draw.choice(("undo", "redo"))
        here, there = (model.undos, model.redos) if name == "undo" else (model.redos, model.undos)
        count = draw.choice((1, 2, None, 0))
        if model.blocks:
            refused(self, InTrial, {}, lambda: getattr(site, name)(count))
        elif count is None or not 1 <= count <= len(here):
            refused(self, OutOfRange, {"value": count}, lambda: getattr(site, name)(count))
        else:
            getattr(site, name)(count)
            for _ in range(count):
                there.append(model.now)
                model.now = here.pop()
            model.log.append((name, count))

    def some_block(self, draw, site, model, depth):
        how = draw.choice(("kept", "not kept", "error", "kept error", "attempt", "tried", "attempt error", "tried error"))
        model.begin()
        inner = [None]

        def action(given):
            self.assertIs(given, site)
            self.same(site, model)
            self.some(draw, site, model, depth + 1)
            if "error" in how:
                raise Fault()
            inner[0] = object()
            return inner[0]

        try:
            if "attempt" in how or "tried" in how:
                found = site.attempt(action) if "attempt" in how else site.tried(action)
                self.assertIs(found, inner[0])
            else:
                trial = site.trial()
                with trial as held:
                    if "kept" in how and "not" not in how:
                        self.assertIsNone(trial.keep())
                    action(held)
        except Fault:
            self.assertIn("error", how)
        else:
            self.assertNotIn("error", how)
        model.end(how in ("kept", "attempt"))
        self.same(site, model)

    def test_drawn_blocks(self):
        draw = plain.drawing(431)
        deepest = kept = 0
        for _ in range(400):
            site, model = LoggedSite(example(), most=2), Model("m")
            for _ in range(6):
                self.some(draw, site, model, 0)
            kept += ("trial", True) in model.log and ("trial", False) in model.log
            deepest = max(deepest, len(model.log))
        self.assertGreater(kept, 100)
        self.assertGreater(deepest, 30)


class ByHand(unittest.TestCase):

    def test_kept_and_not_kept(self):
        site = LoggedSite(example())
        with site.trial() as held:
            self.assertIs(held, site)
            self.assertEqual((site.depth, site.undoable), (1, 0))
            site.set_first("n")
            site.take("n", "a")
            self.assertEqual((site.first, len(site), site.undoable, site.redoable), ("n", 2, 0, 0))
        self.assertEqual((site.book, site.depth, site.undoable), (example(), 0, 0))
        trial = site.trial()
        with trial as held:
            held.set_first("n")
            held.take("n", "a")
            trial.keep()
            held.set_rest(["o"])
        self.assertEqual((site.first, site.rest, len(site), site.undoable), ("n", ("o",), 2, 1))
        site.undo()
        self.assertEqual((site.book, site.redoable), (example(), 1))
        site.redo()
        self.assertEqual((site.first, site.rest, len(site), site.undoable, site.redoable), ("n", ("o",), 2, 1, 0))
        self.assertEqual(site.log, (
            ("edit", 3), ("edit", 2), ("trial", False), ("edit", 3), ("edit", 2), ("edit", 2), ("trial", True), ("undo", 1), ("redo", 1)))

    def test_blocks_without_edits(self):
        site = LoggedSite(example())
        site.set_first("n")
        site.undo()
        for keep in (True, False):
            trial = site.trial()
            with trial:
                if keep:
                    trial.keep()
            self.assertEqual((site.undoable, site.redoable), (0, 1))
        # A block within it that is taken back leaves no edits.
        trial = site.trial()
        with trial:
            trial.keep()
            with site.trial():
                site.set_first("o")
        self.assertEqual((site.undoable, site.redoable, site.first), (0, 1, "m"))
        site.redo()
        self.assertEqual(site.first, "n")
        self.assertEqual(site.log, (
            ("edit", 3), ("undo", 1), ("trial", True), ("trial", False), ("edit", 3), ("trial", False), ("trial", True), ("redo", 1)))

    def test_kept_within_one_that_is_taken_back(self):
        site = LoggedSite(example())
        with site.trial():
            inner = site.trial()
            with inner:
                site.set_first("n")
                inner.keep()
            self.assertEqual((site.first, site.depth), ("n", 1))
        self.assertEqual((site.first, site.undoable, site.log), ("m", 0, (("edit", 3), ("trial", True), ("trial", False))))

    def test_three_deep(self):
        site = LoggedSite(example())
        outer, middle, inner = site.trial(), site.trial(), site.trial()
        with outer:
            site.set_first("n")
            with middle:
                with inner:
                    self.assertEqual(site.depth, 3)
                    site.set_first("o")
                    inner.keep()
                middle.keep()
                self.assertEqual((site.depth, site.first), (2, "o"))
            outer.keep()
        self.assertEqual((site.first, site.undoable, site.depth), ("o", 1, 0))
        site.undo()
        self.assertEqual((site.first, site.redoable), ("m", 1))

    def test_errors_leave_the_block(self):
        site = LoggedSite(example(), ending=True, like=example(), most=2)
        for error, action in (
            (Endless, lambda: site.__setitem__(("m", "c"), Body(Press("c")))), (Unlike, lambda: site.set_rest([])),
            (TooBig, lambda: site.__setitem__(("o", "c"), Body(Say("x"), Say("x"), Say("x")))), (InTrial, lambda: site.undo()),
            (KeyError, lambda: {}["q"]), (Fault, lambda: self.fail_so()),
        ):
            before = site.log
            trial = site.trial()
            with self.assertRaises(error):
                with trial:
                    site["m", "k"] = Body(Go("n"))
                    trial.keep()
                    action()
            self.assertEqual((site.book, site.undoable, site.depth), (example(), 0, 0))
            self.assertEqual(site.log, before + (("edit", 3), ("trial", False)))
            for run in (site.attempt, site.tried):
                with self.assertRaises(error):
                    run(lambda held: [held.set_first("m"), action()])
                self.assertEqual((site.book, site.undoable, site.depth), (example(), 0, 0))

    def fail_so(self):
        raise Fault()

    def test_errors_that_are_caught_within_the_block(self):
        site = LoggedSite(example(), most=2)
        trial = site.trial()
        with trial:
            site.set_first("n")
            with self.assertRaises(TooBig):
                site["o", "c"] = Body(Say("x"), Say("x"), Say("x"))
            trial.keep()
        self.assertEqual((site.first, site.undoable, site.log), ("n", 1, (("edit", 3), ("trial", True))))

    def test_attempt_and_tried(self):
        site = LoggedSite(example())
        found = object()

        def action(held):
            held.set_first("n")
            held.set_rest(["n"])
            return found

        self.assertIs(site.tried(action), found)
        self.assertEqual((site.book, site.undoable), (example(), 0))
        self.assertIs(site.attempt(action=action), found)
        self.assertEqual((site.first, site.undoable), ("n", 1))
        self.assertIsNone(site.attempt(lambda held: None))
        self.assertIsNone(site.tried(action=lambda held: None))
        self.assertEqual(site.undoable, 1)
        self.assertEqual(site.log, (("edit", 3),) * 2 + (("trial", False),) + (("edit", 3),) * 2 + (("trial", True), ("trial", True), ("trial", False)))

    def test_what_is_kept_makes_redoing_impossible(self):
        site = Site(example())
        site.set_first("n")
        site.set_first("o")
        site.undo(2)
        with site.trial():
            site.set_first("p")
            self.assertEqual((site.undoable, site.redoable), (0, 2))
        self.assertEqual(site.redoable, 2)
        site.attempt(lambda held: held.set_first("p"))
        self.assertEqual((site.undoable, site.redoable), (1, 0))

    def test_in_trial_ahead_of_out_of_range(self):
        site = Site(example())
        site.set_first("n")
        with site.trial():
            for value in NO_INTEGERS + (0, 1, 5):
                refused(self, InTrial, {}, lambda: site.undo(value))
                refused(self, InTrial, {}, lambda: site.redo(value))
            refused(self, InTrial, {}, site.undo)
            refused(self, InTrial, {}, site.redo)
            self.assertEqual((site.undoable, site.redoable), (1, 0))
        refused(self, OutOfRange, {"value": 2}, lambda: site.undo(2))
        site.undo()

    def test_plain_sites_do_the_same(self):
        draw = plain.drawing(432)
        for _ in range(60):
            one, other = Site(example()), LoggedSite(example())
            for _ in range(8):
                mode = draw.choice("mnop")
                kept = draw.random() < 0.5
                for site in (one, other):
                    trial = site.trial()
                    with trial:
                        site.set_first(mode)
                        if kept:
                            trial.keep()
                self.assertEqual((one.text(), one.undoable, one.redoable), (other.text(), other.undoable, other.redoable))

    def test_the_log_is_a_tuple_that_stays(self):
        site = LoggedSite(example())
        before = site.log
        site.set_first("n")
        self.assertEqual((before, site.log), ((), (("edit", 3),)))
        self.assertIs(type(site.log), tuple)

    def test_a_trial_that_is_kept_ahead_of_its_block(self):
        site = Site(example())
        trial = site.trial()
        trial.keep()
        with trial:
            site.set_first("n")
        self.assertEqual((site.first, site.undoable), ("n", 1))


if __name__ == "__main__":
    unittest.main()
