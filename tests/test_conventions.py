"""The conventions [2] over all modules: copies, names of arguments, tuples and lists, equality, order of errors."""

import unittest

from onestroke import comparing, errors
from onestroke.boards import Board, NotedBoard
from onestroke.bodies import Body, Go, Press, Say
from onestroke.books import Book, Chain
from onestroke.certain import alive, certain, certificate, is_certificate
from onestroke.comparing import are_alike, delays, is_delays, parted
from onestroke.desks import Desk, answers
from onestroke.goals import count_rows, fewest, keys_for, most
from onestroke.pressing import counts, endless_row, first_state, is_rest, row_to, run, states
from onestroke.rows import Row
from onestroke.sites import LoggedSite, Site
from onestroke.smallest import apart, smallest
from onestroke.strokes import stroke
from values import ANY
import plain
import plainsystem


def example():
    return Book("m", ["m"], {
        ("m", "k"): Body(Go("n")), ("n", "a"): Body(Say("x"), Say("y"), Go("m")), ("n", "b"): Body(Say("x"), Say("z"), Go("m"))})


def all_told(system):
    """Everything that functions tell of a system."""
    small = smallest(system)
    steps = [[small.step(number, key) for key in small.bound] for number in range(small.size)]
    return [
        first_state(system), states(system), [is_rest(system, state) for state in states(system)], [row_to(system, state) for state in states(system)],
        endless_row(system), [run(system, [key], state) for state in states(system) for key in system.bound], counts(system, ["k"]), alive(system),
        certain(system), certificate(system), parted(system, example()), delays(system, system), small, steps, apart(system), keys_for(system, Row("x")),
        count_rows(system, 7), fewest(system, 3), most(system, 3)]


class Conventions(unittest.TestCase):

    def test_equal_calls_on_equal_objects(self):
        draw = plain.drawing(451)
        for _ in range(60):
            system = plainsystem.some_system(draw)
            turned = plainsystem.Plain([(first, rest[::-1], dict(list(bodies.items())[::-1])) for first, rest, bodies in system.books])
            one, other = system.made(), turned.made()
            self.assertEqual(one, other)
            self.assertEqual(all_told(one), all_told(other))
            again = all_told(one)
            self.assertEqual(again, all_told(one))

    def test_arguments_by_name(self):
        book = example()
        self.assertEqual(first_state(system=book), "m")
        self.assertEqual(states(system=book), ["m", "n"])
        self.assertTrue(is_rest(system=book, state="m"))
        self.assertEqual(run(pressed=["k"], system=book, state="m"), run(book, ["k"], "m"))
        self.assertTrue(counts(pressed=[], system=book))
        self.assertIsNone(endless_row(system=book))
        self.assertEqual(row_to(state="n", system=book), ["k"])
        self.assertTrue(are_alike(other=book, one=book))
        self.assertIsNone(parted(one=book, other=book))
        self.assertTrue(is_delays(value=delays(one=book, other=book), one=book, other=book))
        self.assertEqual(alive(system=book), ["m", "n"])
        self.assertEqual(list(certain(system=book)), ["m", "n"])
        self.assertTrue(is_certificate(value=certificate(system=book), system=book))
        self.assertEqual(smallest(system=book), smallest(book))
        self.assertEqual(apart(system=book), {(0, 1): []})
        self.assertEqual(keys_for(goal=Row(), system=book), [])
        self.assertEqual((count_rows(many=0, system=book), fewest(many=0, system=book), most(many=0, system=book)), (1, (0, []), (0, [])))
        self.assertEqual(NotedBoard(system=book).press_row(row=Row("k")), Row("x"))
        site = LoggedSite(most=2, like=book, ending=True, book=book)
        self.assertEqual(site(pressed=["k"]).state, "n")
        self.assertEqual(Desk(site=site).run(line="press k"), "ends n 0")
        self.assertEqual(answers(lines=["press k"], site=site), ["ends n 0"])
        for action in (lambda: Site(book, False), lambda: Site(book, False, None, None), lambda: LoggedSite(book, True)):
            with self.assertRaises(TypeError):
                action()

    def test_tuples_where_lists_are_expected(self):
        book = example()
        self.assertEqual(run(book, ("k", "a")), run(book, ["k", "a"]))
        self.assertEqual(counts(book, ("k",)), counts(book, ["k"]))
        self.assertEqual(smallest(book).commands(("k", "a")), Row("x", "y"))
        self.assertEqual(answers(Site(book), ("book", "smallest")), [book.text(), "2"])
        site = Site(book)
        site.set_rest(("m", "n"))
        self.assertEqual(site.rest, ("m", "n"))

    def test_books_that_are_changed_afterwards(self):
        book, second = example(), Book("m", ["m"], {("m", word): Body(Say(word)) for word in "xyz"})
        chain = book + second
        kept = [smallest(book), smallest(chain), run(book, ["k", "a"]), delays(book, chain), certificate(chain)]
        objects = [Board(book), Board(chain), Site(book, like=chain), Site(book, like=book)]
        copies = [smallest(example()), smallest(example()), run(example(), ["k", "a"]), delays(example(), example() + second.copied()),
                  certificate(example() + second.copied())]
        for one in (book, second):
            one.set_first("z")
            one.set_rest([])
            one |= {("z", "k"): Body(Press("k"))}
        for one in chain.books:
            one.set_first("z")
        self.assertEqual(kept, copies)
        for board in objects[:2]:
            self.assertEqual(board.press("k", "b"), Row("x", "z"))
        for site in objects[2:]:
            self.assertEqual(site.text(), example().text())
            site["m", "idle"] = Body()
            with self.assertRaises(errors.Unlike):
                site["m", "idle"] = Body(Say("x"))

    def test_dicts_in_another_order(self):
        book = example()
        proof, table = certificate(book), delays(book, book)
        self.assertTrue(is_certificate(book, dict(reversed(list(proof.items())))))
        self.assertTrue(is_delays(book, book, dict(reversed(list(table.items())))))

    def test_objects_are_equal_only_to_themselves(self):
        makers = (lambda: Board(example()), lambda: NotedBoard(example()), lambda: Site(example()), lambda: LoggedSite(example()),
                  lambda: Desk(Site(example())), lambda: Site(example()).trial())
        for make in makers:
            one = make()
            self.assertTrue(one == one)
            for value in ANY + tuple(other() for other in makers):
                self.assertFalse(one == value)
        for value in ANY:
            self.assertFalse(smallest(example()) == value)

    def test_systems_of_one_kind_are_told_apart_from_others(self):
        # The states of a book are modes, those of a chain tuples; what is told of one is no value for the other.
        book, chain = example(), example() + Book("m", ["m"], {("m", word): Body(Say(word)) for word in "xyz"})
        self.assertTrue(are_alike(book, chain))
        self.assertFalse(is_certificate(book, certificate(chain)))
        self.assertFalse(is_certificate(chain, certificate(book)))
        self.assertFalse(is_delays(chain, book, delays(book, chain)))
        self.assertTrue(is_delays(chain, book, delays(chain, book)))

    def test_rows_that_never_end_do_not_count_anywhere(self):
        book = example()
        book["n", "c"] = Body(Say("q"), Press("c"))
        self.assertTrue(are_alike(book, Book("m", ["m"], {**{pair: book[pair] for pair in book.strokes}, ("n", "c"): Body(Go("dead"))})))
        self.assertEqual(endless_row(book), ["k", "c"])
        self.assertFalse(stroke(book, "n", "c").is_end)
        self.assertEqual((count_rows(book, 2), keys_for(book, Row("q"))), (sum(counts(book, keys) for keys in plainsystem.lists_of("abck", 2) if len(keys) == 2), None))

    def test_nothing_is_kept_between_calls(self):
        book = example()
        before = all_told(book)
        book["n", "a"] = Body(Say("z"), Go("m"))
        changed = all_told(book)
        self.assertNotEqual(before, changed)
        book["n", "a"] = Body(Say("x"), Say("y"), Go("m"))
        self.assertEqual(all_told(book), before)
        self.assertEqual(comparing.parted(book, example()), None)

    def test_sums_of_systems(self):
        book = example()
        for chain in (Chain(book, book), book + book):
            self.assertEqual((first_state(chain), len(states(chain))), (("m", "m"), 4))
            self.assertTrue(is_certificate(chain, certificate(chain)))


if __name__ == "__main__":
    unittest.main()
