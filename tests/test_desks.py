"""Desks [51]: lines and their answers."""

import time
import unittest

from onestroke.bodies import Body, Go, Press, Say, Times
from onestroke.books import Book
from onestroke.certain import certain
from onestroke.desks import Desk, answers
from onestroke.errors import (
    CommandError, Endless, InTrial, InvalidItem, InvalidPressed, OutOfRange, TooBig, TooDeep, TooMany, UnknownState, UnknownStroke, Unlike)
from onestroke.limits import NUMBER
from onestroke.pressing import endless_row
from onestroke.rows import Row
from onestroke.sites import LoggedSite, Site
from onestroke.smallest import smallest
from values import ANY, refused
import plain
import plainplay
import plainsystem
import plaintext

TEXT = "first m\nrest m\nm k: @n\nn a: !x !y @m\nn b: !x !z @m"


def example():
    return Book.read(TEXT)


def desk_of(book=None, **guards):
    return Desk(LoggedSite(example() if book is None else book, **guards))


class Lines(unittest.TestCase):

    def test_every_line(self):
        desk = desk_of()
        self.assertEqual([desk(line) for line in (
            "book", "press k a", "press k", "command 0 k a", "command 1 k a", "command 2 k a", "counts k", "counts k b", "certain n", "certain m",
            "smallest", "endless", "try drop n a", "book", "drop n a", "press k a", "certain n", "undo", "redo", "set n a: !x !y @m", "book",
            "set m c: !x c", "endless", "press nokey c k", "command 900 c", "counts c", "try press c", "set m d:", "press d", "set o d:", "certain o",
            "set m k:", "smallest", "try smallest", "counts k")], [
            TEXT, "ends m 2", "ends n 0", "x", "y", "-", "no", "yes", "1", "0",
            "2", "-", "ok", TEXT, "ok", "ends n 0", "2", "ok", "ok", "ok", TEXT,
            "ok", "c", "never", "x", "no", "never", "ok", "ends m 0", "ok", "-",
            "ok", "1", "1", "yes"])
        self.assertEqual(desk.site["m", "d"], Body())

    def test_running_and_calling(self):
        site = Site(example())
        desk = Desk(site=site)
        self.assertIs(desk.site, site)
        self.assertEqual((desk.run("book"), desk("book"), desk.run(line="press k"), desk(line="press k")), (TEXT, TEXT, "ends n 0", "ends n 0"))
        desk("set m z: !x")
        self.assertEqual((site["m", "z"], site.undoable), (Body(Say("x")), 1))
        site.undo()
        self.assertEqual(desk("redo"), "ok")

    def test_drawn_books(self):
        draw = plain.drawing(441)
        seen = set()
        for _ in range(250):
            bodies = plainplay.some_bodies(draw, plainsystem.MODES[:3], ("a", "b", "c"), ("x", "y"), 3)
            system = plainsystem.Plain([("m", plainsystem.MODES[:draw.randint(0, 3)], bodies)])
            if not plainsystem.is_small(system, 100):
                continue
            book = system.made()
            desk = desk_of(book)
            for _ in range(6):
                keys = [draw.choice(("a", "b", "c", "nokey")) for _ in range(draw.randint(1, 5))]
                said, ring, end = system.run(keys)
                index = draw.randint(0, 6)
                expected = {
                    "press " + " ".join(keys): "never" if end is None else f"ends {end[0]} {len(said)}",
                    f"command {index} " + " ".join(keys): plainplay.command(said, ring, index) or "-",
                    "counts " + " ".join(keys): "yes" if system.counted(keys) is not None else "no"}
                known = system.certain()
                for state in system.states:
                    expected["certain " + state[0]] = str(len(known[state])) if state in known else "-"
                expected["smallest"] = str(smallest(book).size)
                expected["endless"] = " ".join(endless_row(book) or ["-"])
                expected["book"] = book.text()
                for line, answer in expected.items():
                    self.assertEqual(desk(line), answer, (system.books, line))
                    self.assertEqual(desk("try " + line), answer)
                    seen.add(answer.split()[0])
        self.assertTrue({"never", "ends", "yes", "no", "-", "x", "0", "1"} <= seen, seen)

    def test_edits(self):
        draw = plain.drawing(442)
        for _ in range(150):
            site, book = LoggedSite(example()), example()
            desk = Desk(site)
            undos = []
            for _ in range(6):
                mode, key = draw.choice(("m", "n", "o")), draw.choice(("a", "b", "k"))
                if draw.random() < 0.6:
                    items = plainplay.some_items(draw, ("m", "n"), ("a", "k"), ("x",), 2, 4)
                    text = plainplay.text_of(items)
                    line = f"set {mode} {key}: {text}" if text else f"set {mode} {key}:"
                    undos.append(book.copied())
                    book[mode, key] = plainplay.body_of(items)
                    self.assertEqual(desk(line), "ok")
                elif (mode, key) in book:
                    undos.append(book.copied())
                    book.take(mode, key)
                    self.assertEqual(desk(f"drop {mode} {key}"), "ok")
                else:
                    refused(self, UnknownStroke, {"value": (mode, key)}, lambda: desk(f"drop {mode} {key}"))
                self.assertEqual(desk("book"), book.text())
            for before in undos[::-1]:
                self.assertEqual((desk("undo"), site.book), ("ok", before))
            refused(self, OutOfRange, {"value": 1}, lambda: desk("undo"))
            for _ in undos:
                self.assertEqual(desk("redo"), "ok")
            refused(self, OutOfRange, {"value": 1}, lambda: desk("redo"))
            self.assertEqual(site.book, book)

    def test_great_numbers(self):
        desk = desk_of()
        desk(f"set m a: {NUMBER}({NUMBER}(!x) !y)")
        size = NUMBER * (NUMBER + 1)
        self.assertEqual(desk("press a a"), f"ends m {2 * size}")
        self.assertEqual([desk(f"command {at} a") for at in (NUMBER - 1, NUMBER, NUMBER + 1, size - 1, size, 10 ** 899)], ["x", "y", "x", "y", "-", "-"])
        desk("set m b: !x 3(!y) b")
        self.assertEqual([desk(f"command {at} b") for at in (0, 3, 4, 10 ** 900 - 1, 10 ** 899)], ["x", "y", "x", "y" if (10 ** 900 - 1) % 4 else "x", "x"])
        desk("set n k: @m a")
        self.assertEqual(desk("certain n"), "1")
        # The first a behind k goes back to m, where the others say so much each.
        self.assertEqual(desk("press k " + "a " * 998 + "k"), f"ends n {997 * size + 2}")


class Wrong(unittest.TestCase):

    def refuse(self, desk, line):
        before = desk.site.text(), desk.site.log
        refused(self, CommandError, {"value": line}, lambda: desk(line))
        refused(self, CommandError, {"value": line}, lambda: desk.run(line))
        self.assertEqual((desk.site.text(), desk.site.log), before)

    def test_lines_with_a_word_or_a_sign_more_or_less(self):
        desk = desk_of()
        lines = ["set m k: !x", "set m k:", "drop m k", "undo", "redo", "book", "press k", "press k a", "command 0 k", "command 12 k a", "counts k",
                 "certain m", "smallest", "endless"]
        good = set(lines) | {"set m k: @n", "set m k: x", "press a", "counts a", "certain n"}
        for line in lines + ["try " + line for line in lines]:
            for wrong in (line + " ", " " + line, line + "\n", line.replace(" ", "  ", 1), line.upper(), line[1:], line + ":", line + " !", "try", "try ",
                          line + "\tk", line.replace(" ", "\t", 1), "x" + line, line + "(", "try try " + line, "try  " + line, line + " A", "\n" + line,
                          line.capitalize(), line.replace("m", "M"), line.replace("k", ""), line.replace("k", "kkkkkkkkk"), line.replace(":", ""),
                          line.replace(":", " :"), line.replace(": ", ":"), line.replace("0", "00"), line.replace("0", "+0"), line.replace("0", "-1"),
                          line.replace("12", "012"), line.replace("12", "1_2"), line.replace("12", "1.0"), line.replace("12", "")):
                if wrong not in good and wrong[4:] not in good and wrong != line:
                    self.refuse(desk, wrong)
        for line in ("set m", "set", "set m k", "set m: !x", "set m k l: !x", "set m k : !x", "set m k:  !x", "set m k: !x ", "set m k: ", "set m k:!x",
                     "drop m", "drop", "drop m k l", "drop m k:", "undo 1", "redo 1", "book m", "press", "press ", "press K", "press a,b", "command k",
                     "command", "command 0", "command 0 ", "command k 0", "counts", "certain", "certain m n", "certain ", "smallest m", "endless k", "",
                     " ", "\n", "try", "try try book", "tries book", "quit", "help", "press \u00e4", "command \u0661 k", "command \u00b2 k", "certain m:"):
            self.refuse(desk, line)

    def test_indexes(self):
        desk = desk_of()
        self.assertEqual(desk("command " + "9" * 900 + " k"), "-")
        self.assertEqual(desk("command 1" + "0" * 899 + " k a"), "-")
        for index in ("9" * 901, "0" * 900, "00", "01", "-0", "+1", "1e3", "0x1", "", "1" + "0" * 900, "1 0"):
            self.refuse(desk, f"command {index} k")

    def test_values_that_are_no_strings(self):
        desk = desk_of()
        for value in ANY:
            if not isinstance(value, str) or value not in ("book",):
                if isinstance(value, str):
                    self.refuse(desk, value)
                else:
                    refused(self, CommandError, {"value": value}, lambda: desk(value))
                    refused(self, CommandError, {"value": value}, lambda: desk.run(line=value))

    def test_bodies_that_are_not_written_so(self):
        draw = plain.drawing(443)
        desk = desk_of()
        many = 0
        for _ in range(3000):
            text = "".join(draw.choice("!@ab() 0129x") for _ in range(draw.randint(1, 8)))
            if not plaintext.is_written(text):
                self.refuse(desk, "set m k: " + text)
                self.refuse(desk, "try set m k: " + text)
                many += 1
        self.assertGreater(many, 1000)

    def test_bodies_that_are_written_so_but_not_right(self):
        for text, error, fields in (
            ("2000000000(!x)", InvalidItem, {"field": "number"}), ("a a a a a a a", TooMany, {"limit": 6}), ("1(1(1(a)))", TooDeep, {"limit": 2}),
            ("9999999999() a a a a a a a", InvalidItem, {"field": "number"}), ("1(a a a a a a a)", TooMany, {"limit": 6})):
            desk = desk_of()
            for line in (f"set m k: {text}", f"try set m k: {text}", f"set nomode k: {text}"):
                refused(self, error, fields, lambda: desk(line))
                refused(self, error, fields, lambda: desk.run(line))
            self.assertEqual((desk.site.text(), desk.site.log, desk.site.undoable), (TEXT, (), 0))
            self.refuse(desk, f"try try set m k: {text}")
            self.refuse(desk, f"set m k l: {text}")
            self.refuse(desk, f"set m k: {text} ")

    def test_more_than_a_thousand_keys(self):
        desk = desk_of()
        keys = ["k"] * 1001
        for line in ("press", "command 0", "counts"):
            for ahead in ("", "try "):
                with self.assertRaises(InvalidPressed) as caught:
                    desk(f"{ahead}{line} {' '.join(keys)}")
                self.assertEqual(list(caught.exception.value), keys)
        self.assertEqual(desk.site.log, (("trial", False),) * 3)
        self.assertEqual(desk("press " + " ".join(keys[:1000])), "ends n 0")
        # What is no word is no line, however many words there are.
        self.refuse(desk, "press " + " ".join(keys) + " K")

    def test_modes_that_the_book_does_not_have(self):
        desk = desk_of()
        for mode in ("o", "k", "x", "certain"):
            refused(self, UnknownState, {"value": mode}, lambda: desk(f"certain {mode}"))
            refused(self, UnknownState, {"value": mode}, lambda: desk(f"try certain {mode}"))
        self.assertEqual(desk.site.log, (("trial", False),) * 4)

    def test_errors_of_edits(self):
        desk = desk_of(ending=True, like=example(), most=2)
        for line, error, fields in (
            ("drop m a", UnknownStroke, {"value": ("m", "a")}), ("undo", OutOfRange, {"value": 1}), ("redo", OutOfRange, {"value": 1}),
            ("set m c: c", Endless, {"pressed": None}), ("set m k:", Unlike, {"pressed": None}), ("set o c: 3(!x)", TooBig, {"mode": "o", "key": "c"}),
            ("set q a: @a @b @c @d", TooMany, {"limit": 6})):
            with self.assertRaises(error) as caught:
                desk(line)
            for name, value in fields.items():
                if value is not None:
                    self.assertEqual(getattr(caught.exception, name), value)
            with self.assertRaises(InTrial if line in ("undo", "redo") else error):
                desk("try " + line)
        self.assertEqual(desk.site.text(), TEXT)
        self.assertEqual(set(desk.site.log), {("trial", False)})


class Answers(unittest.TestCase):

    def test_as_one_edit(self):
        site = LoggedSite(example())
        lines = ["set m c: !x", "press c", "try drop m c", "press c k a", "drop n b", "certain n"]
        self.assertEqual(answers(site, lines), ["ok", "ends m 1", "ok", "ends m 3", "ok", "2"])
        self.assertEqual((site.undoable, len(site), site.depth), (1, 3, 0))
        self.assertEqual(site.log, (("edit", 4), ("edit", 3), ("trial", False), ("edit", 3), ("trial", True)))
        self.assertEqual(lines[0], "set m c: !x")
        site.undo()
        self.assertEqual(site.text(), TEXT)
        self.assertEqual(answers(site=site, lines=tuple(lines[:2])), ["ok", "ends m 1"])

    def test_nothing_is_kept_behind_an_error(self):
        for line, error in (("quit", CommandError), ("undo", InTrial), ("redo", InTrial), ("try undo", InTrial), ("drop m a", UnknownStroke), (None, CommandError),
                            ("certain q", UnknownState), ("set m k: 1(1(1()))", TooDeep), ("press " + "k " * 1000 + "k", InvalidPressed),
                            ("set m c: 3(!x)", TooBig)):
            site = LoggedSite(example(), most=2)
            site.set_first("n")
            with self.assertRaises(error):
                answers(site, ["set m c: !x", "drop n b", line, "book"])
            self.assertEqual((site.text(), site.undoable, site.redoable, site.depth), (TEXT.replace("first m", "first n"), 1, 0, 0))
            self.assertEqual(site.log[:3], (("edit", 3), ("edit", 4), ("edit", 3)))
            self.assertEqual(site.log[-1], ("trial", False))
            with self.assertRaises(error):
                answers(site, [line])
            site.undo()
            self.assertEqual(site.text(), TEXT)

    def test_none(self):
        site = LoggedSite(example())
        self.assertEqual(answers(site, []), [])
        self.assertEqual(answers(site, ["book", "smallest"]), [TEXT, "2"])
        self.assertEqual((site.undoable, site.log), (0, (("trial", True),) * 2))

    def test_within_a_block(self):
        site = LoggedSite(example())
        with site.trial():
            self.assertEqual(answers(site, ["drop m k", "try drop n a"]), ["ok", "ok"])
            self.assertEqual((len(site), site.depth), (2, 1))
            with self.assertRaises(InTrial):
                Desk(site)("undo")
        self.assertEqual((site.text(), site.undoable), (TEXT, 0))


class Time(unittest.TestCase):

    def test_great_books(self):
        began = time.perf_counter()
        names = "abcdef"
        desk = desk_of(Book("m", ["m"]))
        for key, after in zip(names, names[1:]):
            desk(f"set m {key}: {NUMBER}({NUMBER}({after})) !y")
        desk("set m f: !x")
        desk("set n a: @m b")
        size = 1
        for _ in range(5):
            size = size * 10 ** 18 + 1
        self.assertEqual(desk("press a"), f"ends m {size}")
        self.assertEqual(desk("press " + "a " * 999 + "a"), f"ends m {1000 * size}")
        self.assertEqual([desk(f"command {size - 1} a"), desk(f"command {size - 2} a"), desk(f"command {size} a")], ["y", "y", "-"])
        self.assertEqual(desk("certain n"), str((size - 1) // 10 ** 18))
        self.assertEqual(certain(desk.site.book)["m"], Row())
        self.assertEqual(desk("smallest"), "1")
        self.assertLess(time.perf_counter() - began, 20)


if __name__ == "__main__":
    unittest.main()
