"""Certain rows [40] and certificates [41]."""

import copy
import time
import unittest

from onestroke.bodies import Body, Go, Press, Say, Times
from onestroke.books import Book
from onestroke.certain import alive, certain, certificate, is_certificate
from onestroke.limits import NUMBER
from onestroke.rows import Row, letters
from values import ANY
import plain
import plainsystem
import plainvariants


def words(row):
    return list(row.listed())


def example():
    return Book("m", ["m"], {
        ("m", "k"): Body(Go("n")), ("n", "a"): Body(Say("x"), Say("y"), Go("m")), ("n", "b"): Body(Say("x"), Say("z"), Go("m"))})


def is_plain_certificate(system, value):
    """Whether a dict from plain states to (list, list of keys, list of keys) is a certificate, by each condition of [41]."""
    if set(value) != system.alive():
        return False
    for state, (row, one, other) in value.items():
        if system.is_rest(state) and row:
            return False
        for key in system.bound:
            said, _, after = system.stroke(state, key)
            if after in value and (said + value[after][0])[:len(row)] != row:
                return False
        mine, yours = system.counted(one, state), system.counted(other, state)
        if mine is None or yours is None or mine[:plain.common_of(mine, yours)] != row:
            return False
    return True


class Certain(unittest.TestCase):

    def test_example(self):
        book = example()
        self.assertEqual([letters(certain(book)["n"]), letters(certain(book)["m"])], [["x"], []])
        self.assertEqual(alive(book), ["m", "n"])

    def look_at(self, system):
        made = system.made()
        expected = {system.shown(state): row for state, row in system.certain().items()}
        found = certain(made)
        self.assertEqual({state: words(row) for state, row in found.items()}, expected, system.books)
        self.assertEqual(list(found), sorted(expected))
        self.assertEqual(alive(made), sorted(expected))
        proof = certificate(made)
        self.assertEqual({state: proof[state][0] for state in proof}, found)
        plainly = {state: proof[system.shown(state)] for state in system.alive()}
        plainly = {state: (words(row), one, other) for state, (row, one, other) in plainly.items()}
        self.assertTrue(is_plain_certificate(system, plainly))
        self.assertIs(is_certificate(made, proof), True)
        return expected

    def test_drawn_systems(self):
        draw = plain.drawing(341)
        sizes = []
        for _ in range(700):
            system = plainsystem.some_system(draw) if draw.random() < 0.5 else plainsystem.late_system(draw)
            sizes.extend(len(row) for row in self.look_at(system).values())
        self.assertGreater(len(set(sizes)), 8)

    def test_drawn_systems_by_all_lists_of_keys(self):
        draw = plain.drawing(342)
        for _ in range(60):
            system = plainsystem.some_system(draw, modes=2, keys=2) if draw.random() < 0.5 else plainsystem.late_system(draw)
            if len(system.states) > 4 or len(system.bound) > 2:
                continue
            found = certain(system.made())
            for state in system.alive():
                rows = [said for _, said in system.rows_from(state, 2 * len(system.states) - 1)]
                self.assertEqual(words(found[system.shown(state)]), plainsystem.common_of_all(rows))

    def test_written_otherwise(self):
        draw = plain.drawing(343)
        for _ in range(150):
            system = plainsystem.late_system(draw)
            self.look_at(plainvariants.variant(draw, system))
            # Other names, and keys that press further keys: what is certain is the same.
            first, rest, bodies = system.books[0]
            names = dict(zip(plainsystem.MODES, "zyxwvu"))
            renamed = {(names[mode], key): [("go", names[item[1]]) if item[0] == "go" else item for item in items] for (mode, key), items in bodies.items()}
            other = plainsystem.Plain([(names[first], tuple(names[mode] for mode in rest), renamed)])
            expected = certain(system.made())
            self.assertEqual({names[mode]: row for mode, row in expected.items()}, certain(other.made()))
            further = dict(bodies)
            for mode in plainsystem.modes_of((first, rest, bodies)):
                if (mode, "a") in bodies:
                    further[mode, "further"] = bodies[mode, "a"]
                    further[mode, "a"] = [("press", "further")]
            self.assertEqual(certain(plainsystem.Plain([(first, rest, further)]).made()), expected)

    def test_nothing_counts(self):
        for system in (Book("m"), Book("m", ["n"]) + Book("m"), Book("m", [], {("m", "a"): Body(Say("x"))})):
            self.assertEqual((alive(system), certain(system), certificate(system)), ([], {}, {}))
            self.assertTrue(is_certificate(system, {}))
            self.assertFalse(is_certificate(system, {"m": (Row(), [], [])}))

    def test_dicts_and_lists_are_new(self):
        book = example()
        alive(book).clear()
        certain(book).clear()
        proof = certificate(book)
        for _, one, other in proof.values():
            one.append("q")
            self.assertIsNot(one, other)
        proof.clear()
        self.assertEqual((alive(book), len(certain(book))), (["m", "n"], 2))
        self.assertTrue(is_certificate(book, certificate(book)))
        self.assertEqual(certain(book), certain(book.copied()))
        self.assertEqual(certificate(book), certificate(book.copied()))


class Great(unittest.TestCase):

    def setUp(self):
        self.began = time.perf_counter()

    def tearDown(self):
        self.assertLess(time.perf_counter() - self.began, 60)

    def check(self, book, expected):
        found = certain(book)
        self.assertEqual(found, expected)
        self.assertTrue(is_certificate(book, certificate(book)))
        # With a second book that passes all on, the same is certain.
        chain = book + Book("m", ["m"], {("m", word): Body(Say(word)) for word in "xyz"})
        self.assertEqual(certain(chain), {(mode, "m"): row for mode, row in expected.items()})
        self.assertTrue(is_certificate(chain, certificate(chain)))

    def test_a_loop_ahead_of_a_way_out(self):
        for number in (1, 7, 10 ** 6, NUMBER):
            for great in (1, 5, NUMBER):
                many = number * great
                out = Times(number, Times(great, Say("x")))
                book = Book("m", ["o"], {("m", "l"): Body(Say("x")), ("m", "k"): Body(out, Say("y"), Go("o"))})
                # The loop may come once more than the way out says before another word: all but that is certain.
                self.check(book, {"m": Row("x") * many, "o": Row()})
                book["n", "k"] = Body(Say("z"), Go("m"))
                self.check(book, {"m": Row("x") * many, "n": Row("z") + Row("x") * many, "o": Row()})
                # Another way out that says less.
                book["m", "j"] = Body(Times(number, Say("x")), Say("z"), Go("o"))
                self.check(book, {"m": Row("x") * number, "n": Row("z") + Row("x") * number, "o": Row()})
                # A way out that says nothing more than the word.
                book["m", "i"] = Body(Times(3, Say("x")), Go("o"))
                self.check(book, {"m": Row("x") * min(3, number), "n": Row("z") + Row("x") * min(3, number), "o": Row()})

    def test_loops_of_several_words(self):
        for number in (1, 10, NUMBER):
            book = Book("m", ["o"], {
                ("m", "l"): Body(Say("x"), Say("y")), ("m", "k"): Body(Times(number, Say("x"), Say("y")), Say("x"), Say("z"), Go("o"))})
            self.check(book, {"m": Row("x", "y") * number + Row("x"), "o": Row()})
            # A loop of another size that goes on in the same way.
            book["m", "i"] = Body(Times(NUMBER, Say("x"), Say("y")))
            self.check(book, {"m": Row("x", "y") * number + Row("x"), "o": Row()})
            # One that is turned by a word.
            book["m", "j"] = Body(Say("y"), Say("x"))
            self.check(book, {"m": Row(), "o": Row()})

    def test_great_rows_behind_rests(self):
        book = Book("m", ["n", "o"], {
            ("m", "a"): Body(Times(NUMBER, Say("x")), Go("n")), ("n", "a"): Body(Times(NUMBER, Say("y")), Go("p")),
            ("p", "a"): Body(Times(NUMBER, Say("z")), Go("o")), ("p", "b"): Body(Times(NUMBER, Say("z")), Say("z"), Go("o"))})
        row = Row("z") * NUMBER
        self.check(book, {"m": Row("x") * NUMBER, "n": Row(), "o": Row(), "p": row})
        book.set_rest(["o"])
        self.check(book, {"m": Row("x") * NUMBER + Row("y") * NUMBER + row, "n": Row("y") * NUMBER + row, "o": Row(), "p": row})

    def test_what_never_ends_or_is_dead_does_not_count(self):
        book = Book("m", ["o"], {
            ("m", "a"): Body(Times(NUMBER, Say("x")), Go("o")), ("m", "b"): Body(Say("y"), Press("b")), ("m", "c"): Body(Say("z"), Go("p"))})
        self.check(book, {"m": Row("x") * NUMBER, "o": Row()})

    def test_keys_that_press_the_next_one(self):
        names = "abcdef"
        bodies = {("m", key): Body(Times(NUMBER, Times(NUMBER, Press(after))), Say("y")) for key, after in zip(names, names[1:])}
        bodies["m", "f"] = Body(Say("x"))
        bodies["n", "a"] = Body(Press("b"), Go("m"))
        bodies["m", "a"] = Body(Go("m"), Press("b"), Press("b"), Go("o"))
        book = Book("n", ["o"], bodies)
        row = Row("x")
        for _ in range(4):
            row = row * 10 ** 18 + Row("y")
        found = certain(book)
        # At m the other keys may come first, of which the last one says x alone: only x is certain, as all begin with it.
        self.assertEqual(found["o"], Row())
        self.assertTrue(is_certificate(book, certificate(book)))
        self.assertEqual(found["m"].common(row), min(found["m"].size, 10 ** 18))


class Certificates(unittest.TestCase):

    def told(self, system, value):
        """The value in plain states and lists, None if it is of another form."""
        shown = {system.shown(state): state for state in system.states}
        found = {}
        for state, entry in value.items():
            if state not in shown or type(entry) is not tuple or len(entry) != 3 or not isinstance(entry[0], Row):
                return None
            if any(type(part) is not list or not all(plain_word(word) for word in part) for part in entry[1:]):
                return None
            found[shown[state]] = (words(entry[0]), entry[1], entry[2])
        return found

    def check(self, system, value):
        plainly = self.told(system, value)
        expected = plainly is not None and is_plain_certificate(system, plainly)
        before = copy.copy(value)
        self.assertIs(is_certificate(system.made(), value), expected, (system.books, value))
        self.assertEqual(list(value.items()), list(before.items()))
        return expected

    def changed(self, draw, system, proof):
        """A value near a certificate."""
        value = dict(proof)
        states = [system.shown(state) for state in system.states]
        state = draw.choice(sorted(value) or states)
        other = draw.choice(states)
        row, one, more = value.get(state, (Row(), [], []))
        kind = draw.randrange(14)
        if kind == 0:
            value.pop(state, None)
        elif kind == 1:
            value.setdefault(other, (Row(), [], []))
        elif kind == 2:
            value[state] = (row + Row(draw.choice("xy")), one, more)
        elif kind == 3 and row.size:
            value[state] = (row.part(0, row.size - 1), one, more)
        elif kind == 4:
            value[state] = (row, one[:-1], more)
        elif kind == 5:
            value[state] = (row, one, more + [draw.choice(system.bound + ("nokey",))])
        elif kind == 6 and other in value:
            value[state] = (row, value[other][1], more)
        elif kind == 7:
            value[state] = (row, ["nokey"] * 1000 + one, more + ["nobody"] * 2500)
        elif kind == 8:
            value[state] = (row, one, draw.choice((["X"], [1], [None], ["a" * 9], [""], [["a"]], "a", None, {})))
        elif kind == 9:
            value[state] = (row, tuple(one), more)
        elif kind == 10:
            value[state] = [row, one, more]
        elif kind == 11:
            value[state] = (row, more, one)
        elif kind == 12:
            value[state] = (row, one, one)
        else:
            value[state] = (row, [draw.choice(system.bound + ("nokey",)) for _ in range(draw.randint(0, 3))], more)
        return value

    def test_values_near_certificates(self):
        draw = plain.drawing(344)
        answers = []
        for _ in range(150):
            system = plainsystem.some_system(draw, modes=3) if draw.random() < 0.5 else plainsystem.late_system(draw)
            proof = certificate(system.made())
            for _ in range(12):
                answers.append(self.check(system, self.changed(draw, system, proof)))
        self.assertGreater(answers.count(True), 200)
        self.assertGreater(answers.count(False), 600)

    def test_a_loop_that_speaks_against_a_row(self):
        book = Book("m", ["o"], {("m", "k"): Body(Say("x"), Say("x"), Say("y"), Go("o")), ("m", "l"): Body(Say("x"))})
        good = {"m": (Row("x", "x"), ["k"], ["l", "k"]), "o": (Row(), [], [])}
        self.assertTrue(is_certificate(book, good))
        book["m", "l"] = Body(Say("y"))
        self.assertFalse(is_certificate(book, good))
        self.assertFalse(is_certificate(book, {**good, "m": (Row("x", "x", "y"), ["k"], ["k"])}))
        self.assertTrue(is_certificate(book, {**good, "m": (Row(), ["k"], ["l", "k"])}))
        # What cannot count does not speak against it.
        book["m", "l"] = Body(Say("y"), Go("p"))
        self.assertTrue(is_certificate(book, {**good, "m": (Row("x", "x", "y"), ["k"], ["k"])}))

    def test_lists_of_any_length(self):
        book = Book("m", ["o"], {("m", "k"): Body(Say("y"), Go("o")), ("m", "l"): Body(Say("x"), Say("x"))})
        row = Row("x") * 20000
        self.assertTrue(is_certificate(book, {"m": (Row(), ["k"], ["l"] * 10000 + ["k"]), "o": (Row(), ["nokey"] * 5000, [])}))
        self.assertFalse(is_certificate(book, {"m": (row, ["l"] * 10000 + ["k"], ["l"] * 10001 + ["k"]), "o": (Row(), [], [])}))
        self.assertFalse(is_certificate(book, {"m": (Row(), ["k"], ["l"] * 10000), "o": (Row(), [], [])}))

    def test_great_rows(self):
        book = example()
        proof = certificate(book)
        great = Row("x") * 10 ** 4000
        for state in proof:
            self.assertFalse(is_certificate(book, {**proof, state: (great, *proof[state][1:])}))

    def test_values_of_any_kind(self):
        book = example()
        proof = certificate(book)
        self.assertTrue(is_certificate(system=book, value=proof))
        for value in ANY + (list(proof), tuple(proof.items()), [proof], {**proof, 5: proof["m"]}, {**proof, None: proof["m"]}):
            self.assertIs(is_certificate(book, value), False)
            self.assertIs(is_certificate(book, {**proof, "m": value}), False)
            self.assertIs(is_certificate(book, {**proof, "m": (value, [], [])}), isinstance(value, Row) and value.size == 0)
            self.assertIs(is_certificate(book, {**proof, "m": (Row(), value, [])}), type(value) is list and all(plain_word(word) for word in value))
            self.assertIs(is_certificate(book, {**proof, "m": (Row(), [], [value])}), plain_word(value))
        self.assertFalse(is_certificate(book, {**proof, "m": (Row(), [])}))
        self.assertFalse(is_certificate(book, {**proof, "m": (Row(), [], [], [])}))
        self.assertFalse(is_certificate(book + example(), proof))
        self.assertFalse(is_certificate(book, {("m",): proof["m"], ("n",): proof["n"]}))


def plain_word(value):
    return type(value) is str and 0 < len(value) < 9 and all("a" <= sign <= "z" for sign in value)


if __name__ == "__main__":
    unittest.main()
