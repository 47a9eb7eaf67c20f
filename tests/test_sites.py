"""Sites [50]: edits, guards, undoing and redoing, against a model that the test keeps for itself."""

import itertools
import time
import unittest

from onestroke.bodies import Body, Go, Press, Say, Times
from onestroke.books import Book, Chain
from onestroke.comparing import parted
from onestroke.errors import (
    Endless, InvalidBodies, InvalidMode, InvalidPressed, InvalidStroke, NotABody, NotABook, OutOfRange, TooBig, TooMany, UnknownStroke,
    Unlike)
from onestroke.limits import NUMBER
from onestroke.pressing import run
from onestroke.rows import Row
from onestroke.sites import LoggedSite, Site
from test_great_strokes import deep_bodies
from values import ANY, NO_INTEGERS, refused
import plain
import plainplay
import plainsystem

MODES = ("m", "n", "o")
KEYS = ("a", "b", "c")


def example():
    return Book("m", ["m"], {
        ("m", "k"): Body(Go("n")), ("n", "a"): Body(Say("x"), Say("y"), Go("m")), ("n", "b"): Body(Say("x"), Say("z"), Go("m"))})


def endless_in(system):
    """The number of keys of a shortest list that never ends, None if there is none."""
    found = {system.first: 0}
    order = [system.first]
    for state in order:
        for key in system.bound:
            after = system.after(state, key)
            if after is None:
                return found[state] + 1
            if after not in found:
                found[after] = found[state] + 1
                order.append(after)
    return None


class Model:
    """A plain book (first, rest, bodies), the ones before and behind it, guards and a log."""

    def __init__(self, book, ending=False, like=None, most=None):
        self.book = book
        self.guards = (ending, like, most)
        self.undos = []
        self.redos = []
        self.log = []

    def fault(self, book):
        """What the guards say against a plain book: (error, check of the error), None for nothing."""
        ending, like, most = self.guards
        system = plainsystem.Plain([book])
        if ending and endless_in(system) is not None:
            return Endless, lambda error: len(error.pressed) == endless_in(system) and system.run(error.pressed)[2] is None
        if like is not None:
            shortest = plainsystem.first_parting(system, like, 3)
            if shortest is None and parted(made(book), like.made()) is not None:
                # Too far away for this model: what parts them must do so, and not be too short.
                return Unlike, lambda error: len(error.pressed) > 3 and system.counted(error.pressed) != like.counted(error.pressed)
            if shortest is not None:
                return Unlike, lambda error: len(error.pressed) == shortest and system.counted(error.pressed) != like.counted(error.pressed)
        if most is not None:
            for mode, key in sorted(book[2]):
                said, _, after = system.stroke((mode,), key)
                if after is not None and len(said) > most:
                    return TooBig, lambda error: (error.mode, error.key) == (mode, key)
        return None

    def edit(self, book):
        self.undos.append(self.book)
        self.redos = []
        self.book = book
        self.log.append(("edit", len(book[2])))


def some_book(draw, wild=0.3):
    bodies = {}
    for mode in MODES[:2]:
        for at, key in enumerate(KEYS):
            if draw.random() < 0.6:
                bodies[mode, key] = some_body(draw, key, wild)
    return draw.choice(MODES[:2]), tuple(sorted({draw.choice(MODES) for _ in range(draw.randint(0, 2))})), bodies


def some_body(draw, key, wild):
    others = KEYS if draw.random() < wild else KEYS[:KEYS.index(key)] + ("nokey",)
    return plainplay.some_items(draw, MODES, others, ("x", "y"), 1, 3)


def made(book):
    return plainplay.book_of(book[2], book[0], book[1])


class Drawn(unittest.TestCase):

    def same(self, site, model):
        book = made(model.book)
        self.assertEqual(site.book, book)
        self.assertEqual((site.undoable, site.redoable, site.depth), (len(model.undos), len(model.redos), 0))
        self.assertEqual((site.first, site.rest, site.strokes, len(site), site.text()), (book.first, book.rest, book.strokes, len(book), book.text()))
        if isinstance(site, LoggedSite):
            self.assertEqual(site.log, tuple(model.log))

    def some_edit(self, draw, model):
        """(action, changed plain book or None, error and its fields or None): an edit of a site and what it does."""
        first, rest, bodies = model.book
        kind = draw.randrange(8)
        pair = draw.choice(MODES), draw.choice(KEYS)
        if kind < 3:
            items = some_body(draw, pair[1], 0.2)
            body = plainplay.body_of(items)
            return lambda site: site.__setitem__(pair, body), (first, rest, {**bodies, pair: items})
        if kind == 3:
            left = {one: items for one, items in bodies.items() if one != pair}
            return lambda site: site.take(*pair), (first, rest, left) if pair in bodies else None
        if kind == 4:
            mode = draw.choice(MODES)
            return lambda site: site.set_first(mode), (mode, rest, bodies)
        if kind == 5:
            modes = [draw.choice(MODES) for _ in range(draw.randint(0, 3))]
            return lambda site: site.set_rest(modes), (first, tuple(sorted(set(modes))), bodies)
        more = {(draw.choice(MODES), key): some_body(draw, key, 0.1) for key in KEYS[:draw.randint(0, 2)]}

        def change(site):
            same = site
            site |= {one: plainplay.body_of(items) for one, items in more.items()}
            self.assertIs(site, same)
        return change, (first, rest, {**bodies, **more})

    def step(self, draw, site, model):
        """One edit, undo or redo. Returns what came of it."""
        kind = draw.randrange(10)
        if kind > 5:
            name, here, there = ("undo", model.undos, model.redos) if kind > 7 else ("redo", model.redos, model.undos)
            count = draw.choice((1, 1, 1, 2, 3, 0, -1))
            if not 1 <= count <= len(here):
                refused(self, OutOfRange, {"value": count}, lambda: getattr(site, name)(count))
                return "range"
            getattr(site, name)(*([] if count == 1 and draw.random() < 0.5 else [count]))
            for _ in range(count):
                there.append(model.book)
                model.book = here.pop()
            model.log.append((name, count))
            return name
        action, changed = self.some_edit(draw, model)
        if changed is None:
            with self.assertRaises(UnknownStroke):
                action(site)
            return "unknown"
        system = plainsystem.Plain([changed])
        if not plainsystem.is_small(system, 60):
            return "great"
        fault = model.fault(changed)
        if fault is None:
            action(site)
            model.edit(changed)
            return "edit"
        with self.assertRaises(fault[0]) as caught:
            action(site)
        self.assertTrue(fault[1](caught.exception), (model.book, changed, caught.exception))
        return fault[0].__name__

    def test_drawn_edits(self):
        draw = plain.drawing(421)
        seen = {}
        for _ in range(700):
            book = some_book(draw, 0.1)
            if not plainsystem.is_small(plainsystem.Plain([book]), 60):
                continue
            like = None
            if draw.random() < 0.3:
                like = plainsystem.Plain([book])
            model = Model(book, draw.random() < 0.4, like, draw.choice((None, None, 2, 5, 0)))
            guards = {"ending": model.guards[0], "like": None if like is None else like.made(), "most": model.guards[2]}
            kind = draw.choice((Site, LoggedSite))
            fault = model.fault(book)
            if fault is not None:
                with self.assertRaises(fault[0]) as caught:
                    kind(made(book), **guards)
                self.assertTrue(fault[1](caught.exception))
                seen["refused"] = seen.get("refused", 0) + 1
                continue
            site = kind(made(book), **guards)
            self.same(site, model)
            for _ in range(12):
                what = self.step(draw, site, model)
                seen[what] = seen.get(what, 0) + 1
                self.same(site, model)
        for what, least in (("edit", 300), ("undo", 100), ("redo", 30), ("range", 100), ("unknown", 10), ("Endless", 5), ("Unlike", 50),
                            ("TooBig", 50), ("refused", 10)):
            self.assertGreater(seen.get(what, 0), least, what)


class Edits(unittest.TestCase):

    def test_as_of_the_book(self):
        site = Site(example())
        for pair in (("m", "k"), ("n", "a"), ("n", "b")):
            self.assertEqual(site[pair], example()[pair])
            self.assertIn(pair, site)
        for value in ANY + (("m", "a"), ["m", "k"], ("m", "k", "l")):
            self.assertNotIn(value, site)
            refused(self, UnknownStroke, {"value": value}, lambda: site[value])
        with self.assertRaises(TypeError):
            list(site)
        with self.assertRaises(TypeError):
            iter(site)

    def test_pressed_rows(self):
        site = Site(example())
        for pressed in (["k", "a"], ("k", "b"), Row("k", "a") * 10 ** 30, []):
            self.assertEqual(site(pressed), run(example(), pressed))
            self.assertEqual(site(pressed=pressed), run(example(), pressed))
        wrong = ["K"]
        refused(self, InvalidPressed, {"value": wrong}, lambda: site(wrong))

    def test_errors_of_the_change(self):
        like = example()
        for guards in ({}, {"ending": True, "like": like, "most": 2}):
            site = LoggedSite(example(), **guards)
            before = site.text()
            bodies = {(mode, "k"): Body(Press("k"), Say("x"), Times(NUMBER, Say("x"))) for mode in "abcdef"}
            keys = {("m", key): Body(Press("q")) for key in "cdefg"}
            wrong = {("m", "k"): None}
            for error, fields, action in (
                (InvalidStroke, {"value": "mk"}, lambda: site.__setitem__("mk", Body())),
                (NotABody, {"value": None}, lambda: site.__setitem__(("m", "k"), None)),
                (InvalidStroke, {"value": None}, lambda: site.__setitem__(None, None)),
                (TooMany, {"limit": 6}, lambda: site.__setitem__(("m", "k"), Body(*[Go(mode) for mode in "abcdef"]))),
                (UnknownStroke, {"value": ("m", "a")}, lambda: site.take("m", "a")),
                (UnknownStroke, {"value": ("m", None)}, lambda: site.take(mode="m", key=None)),
                (InvalidMode, {"value": "M"}, lambda: site.set_first("M")),
                (InvalidMode, {"value": wrong}, lambda: site.set_rest(wrong)),
                (TooMany, {"limit": 6}, lambda: site.set_rest(list("abcdef"))),
                (InvalidBodies, {"value": wrong}, lambda: site.__ior__(wrong)),
                (TooMany, {"limit": 6}, lambda: site.__ior__(bodies)),
                (TooMany, {"limit": 6}, lambda: site.__ior__(keys)),
            ):
                refused(self, error, fields, action)
                self.assertEqual((site.text(), site.log, site.undoable), (before, (), 0))

    def test_an_edit_that_makes_nothing_different(self):
        site = LoggedSite(example(), ending=True, like=example(), most=2)
        site["m", "k"] = Body(Go("n"))
        site.set_first("m")
        site.set_rest(["m", "m"])
        site |= {}
        self.assertEqual((site.undoable, site.log), (4, (("edit", 3),) * 4))
        self.assertEqual(site.book, example())
        self.assertIsNone(site.undo(3))
        self.assertIsNone(site.redo(2))
        self.assertEqual((site.undoable, site.redoable), (3, 1))
        self.assertIsNone(site.set_first(mode="m"))
        self.assertEqual((site.undoable, site.redoable), (4, 0))
        refused(self, OutOfRange, {"value": 1}, lambda: site.redo())

    def test_counts_that_are_none(self):
        site = Site(example())
        site.set_first("n")
        site.set_first("o")
        site.undo(count=1)
        for value in NO_INTEGERS + (0, -1, 2, 10 ** 99):
            refused(self, OutOfRange, {"value": value}, lambda: site.undo(value))
            refused(self, OutOfRange, {"value": value}, lambda: site.redo(count=value))
        self.assertEqual((site.undoable, site.redoable, site.first), (1, 1, "n"))

    def test_no_name_is_given_to_anything_else(self):
        for name in ("book", "first", "rest", "strokes", "undoable", "redoable", "depth", "log"):
            with self.assertRaises(AttributeError):
                setattr(LoggedSite(example()), name, 1)
        with self.assertRaises(TypeError):
            Site(example(), True)
        self.assertFalse(hasattr(Site(example()), "log"))
        self.assertNotEqual(Site(example()), Site(example()))


class Guards(unittest.TestCase):

    def test_values_that_are_no_books(self):
        for value in ANY + (example() + example(), "first m\nrest"):
            if not isinstance(value, Book):
                refused(self, NotABook, {"index": 0}, lambda: Site(value))
                refused(self, NotABook, {"index": 0}, lambda: LoggedSite(book=value, ending=True, like=example(), most=0))

    def wrong(self, site, error, check, action):
        before = site.text(), site.undoable, site.redoable, site.log
        with self.assertRaises(error) as caught:
            action(site)
        self.assertTrue(check(caught.exception), vars(caught.exception))
        self.assertEqual((site.text(), site.undoable, site.redoable, site.log), before)

    def test_each_alone_and_all_together(self):
        for ending, like, most in itertools.product((False, True), (None, example()), (None, 2)):
            site = LoggedSite(example(), ending=ending, like=like, most=most)
            site["m", "k"] = Body(Go("n"), Times(0, Say("x")))

            def endless(site):
                site["n", "c"] = Body(Times(3, Say("x")), Press("c"))

            def unlike(site):
                site["n", "a"] = Body(Say("x"), Say("y"), Say("y"), Go("m"))

            def too_big(site):
                site["dead", "b"] = Body(Times(3, Say("x")))

            if ending:
                self.wrong(site, Endless, lambda error: error.pressed == ["k", "c"], endless)
            elif like is None:
                endless(site)
            if like is not None:
                self.wrong(site, Unlike, lambda error: error.pressed == ["k", "a"], unlike)
            elif most is not None:
                self.wrong(site, TooBig, lambda error: (error.mode, error.key) == ("n", "a"), unlike)
            else:
                unlike(site)
            if most is not None:
                self.wrong(site, TooBig, lambda error: (error.mode, error.key) == ("dead", "b"), too_big)
            else:
                too_big(site)
            if like is not None:
                self.wrong(site, Unlike, lambda error: error.pressed == [], lambda site: site.set_rest(["n"]))
                self.wrong(site, Unlike, lambda error: error.pressed == [], lambda site: site.set_rest([]))
                self.wrong(site, Unlike, lambda error: error.pressed == [], lambda site: site.set_first("n"))

    def test_all_at_once(self):
        wrong = Book("m", ["n"], {("m", "k"): Body(Press("k")), ("m", "a"): Body(Times(NUMBER, Say("x")))})
        with self.assertRaises(Endless) as caught:
            Site(wrong, ending=True, like=example(), most=0)
        self.assertEqual(caught.exception.pressed, ["k"])
        wrong["m", "k"] = Body()
        with self.assertRaises(Unlike) as caught:
            Site(wrong, ending=True, like=example(), most=0)
        self.assertEqual(caught.exception.pressed, [])
        refused(self, TooBig, {"mode": "m", "key": "a"}, lambda: Site(wrong, ending=True, like=wrong, most=NUMBER - 1))
        self.assertEqual(Site(wrong, ending=True, like=wrong, most=NUMBER).book, wrong)
        refused(self, NotABook, {"index": 0}, lambda: Site(wrong + wrong, ending=True, like=example(), most=0))

    def test_strokes_that_no_row_reaches(self):
        book = Book("m", ["m"], {("n", "a"): Body(Press("a")), ("o", "b"): Body(Times(5, Say("x"))), ("o", "a"): Body(Times(7, Say("x")))})
        self.assertEqual(len(Site(book, ending=True)), 3)
        refused(self, TooBig, {"mode": "o", "key": "a"}, lambda: Site(book, most=4))
        refused(self, TooBig, {"mode": "o", "key": "a"}, lambda: Site(book, most=6))
        self.assertEqual(len(Site(book, most=7)), 3)
        # A stroke that never ends is none that ends.
        book["n", "b"] = Body(Times(NUMBER, Say("x")), Press("b"))
        self.assertEqual(len(Site(book, most=7)), 4)
        site = Site(book, ending=True)
        with self.assertRaises(Endless) as caught:
            site.set_first("n")
        self.assertEqual(len(caught.exception.pressed), 1)

    def test_a_chain_to_be_alike_to(self):
        passing = Book("m", ["m"], {("m", word): Body(Say(word)) for word in "xyz"})
        site = Site(example(), like=example() + passing)
        site["n", "a"] = Body(Say("x"), Times(1, Say("y")), Go("m"))
        with self.assertRaises(Unlike) as caught:
            site["n", "b"] = Body(Say("x"), Say("y"), Go("m"))
        self.assertEqual(caught.exception.pressed, ["k", "b"])

    def test_great_numbers(self):
        book = Book("m", ["m"], {("m", "a"): Body(Times(NUMBER, Times(NUMBER, Say("x"))))})
        site = Site(book, most=NUMBER ** 2, like=book)
        with self.assertRaises(Unlike) as caught:
            site["m", "a"] = Body(Times(NUMBER, Times(NUMBER, Say("x"))), Say("x"))
        self.assertEqual(caught.exception.pressed, ["a"])
        site = Site(book, most=NUMBER ** 2)
        with self.assertRaises(TooBig):
            site["m", "a"] = Body(Times(NUMBER, Times(NUMBER, Say("x"))), Say("x"))
        self.assertEqual(site["m", "a"], book["m", "a"])

    def test_guards_hold_after_undo(self):
        site = Site(example(), most=2)
        site["n", "c"] = Body(Say("x"))
        with self.assertRaises(TooBig):
            site["n", "c"] = Body(Say("x"), Say("x"), Say("x"))
        site.undo()
        self.assertEqual((site.book, site.redoable), (example(), 1))
        with self.assertRaises(TooBig):
            site["n", "c"] = Body(Say("x"), Say("x"), Say("x"))
        # A refused edit leaves what can be redone.
        self.assertEqual((site.undoable, site.redoable), (0, 1))
        site.redo()
        self.assertEqual(site["n", "c"], Body(Say("x")))

    def test_guards_and_books_that_are_edited_afterwards(self):
        book, like = example(), example()
        site = Site(book, like=like)
        for one in (book, like, site.book):
            one["m", "k"] = Body(Say("q"))
            one.set_rest([])
        self.assertEqual(site.book, example())
        site["n", "a"] = Body(Say("x"), Say("y"), Go("m"))
        with self.assertRaises(Unlike):
            site["m", "k"] = Body(Say("q"))
        bodies = {("m", "j"): Body()}
        modes = ["m"]
        site |= bodies
        site.set_rest(modes)
        bodies["m", "j"] = Body(Say("q"))
        modes.append("n")
        self.assertEqual((site["m", "j"], site.rest), (Body(), ("m",)))

    def test_errors_keep_lists_of_their_own(self):
        site = Site(example(), ending=True)
        found = []
        for _ in range(2):
            with self.assertRaises(Endless) as caught:
                site["m", "c"] = Body(Press("c"))
            found.append(caught.exception.pressed)
            caught.exception.pressed.append("q")
        self.assertEqual(found, [["c", "q"], ["c", "q"]])
        self.assertIsNot(found[0], found[1])

    def test_time(self):
        began = time.perf_counter()
        draw = plain.drawing(422)
        bodies, order = deep_bodies(draw, 6, ("x", "y"))
        book = plainplay.book_of(bodies, "a", ("a", "c"))
        site = LoggedSite(book, ending=True, like=book, most=10 ** 800)
        for mode, key in order[:2]:
            site[mode, key] = Body(Times(1, *book[mode, key].entries[:3]), *book[mode, key].entries[3:]) if book[mode, key].depth < 2 else book[mode, key]
        self.assertGreater(site([order[-1][1]]).row.size, 10 ** 100)
        self.assertEqual(site.undoable, 2)
        self.assertLess(time.perf_counter() - began, 60)

    def test_chains_are_no_books_of_sites(self):
        refused(self, NotABook, {"index": 0}, lambda: Site(Chain(example(), example())))


if __name__ == "__main__":
    unittest.main()
