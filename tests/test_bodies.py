"""onestroke/bodies.py [20]: items and bodies."""

import itertools
import unittest

from onestroke import bodies
from onestroke.bodies import Body, Go, Item, Press, Say, Times
from onestroke.errors import InvalidItem, NotAnItem, OutOfRange, TooDeep, TooMany
from values import ANY, NO_INTEGERS, NO_WORDS, OBJECTS, refused
import plain
import plainplay

ITEMS = (Say("a"), Say("b"), Press("a"), Press("b"), Go("a"), Go("b"), Times(0), Times(1), Times(2, Say("a")),
         Times(2, Press("a")), Times(3, Say("a")), Times(2, Say("a"), Say("a")), Times(2, Times(2, Say("a"))),
         Times(2, Times(2, Say("b"))))


def nested(depth):
    """A Times of this depth."""
    item = Times(2, Say("a"))
    for _ in range(depth - 1):
        item = Times(3, Press("b"), item)
    return item


class Items(unittest.TestCase):

    def test_classes(self):
        for made in (Say, Press, Go, Times):
            self.assertEqual(made.__bases__, (Item,))
            self.assertEqual(made.__module__, "onestroke.bodies")
        self.assertFalse(issubclass(Body, Item))

    def test_attributes_and_texts(self):
        for word in ("a", "z", "abcdefgh", "times"):
            self.assertEqual((Say(word).command, Say(command=word).text()), (word, "!" + word))
            self.assertEqual((Press(word).key, Press(key=word).text()), (word, word))
            self.assertEqual((Go(word).mode, Go(mode=word).text()), (word, "@" + word))
            self.assertEqual(vars(Say(word))["command"], word)
        one = Times(10 ** 9, Say("a"), Times(0), Go("b"))
        self.assertEqual((one.number, one.body), (10 ** 9, Body(Say("a"), Times(0), Go("b"))))
        self.assertEqual(one.text(), "1000000000(!a 0() @b)")
        self.assertEqual((Times(0).number, Times(0).body, Times(0).text()), (0, Body(), "0()"))
        self.assertTrue({"number", "body"} <= set(vars(one)))

    def test_no_words(self):
        wrong = NO_WORDS + ("abcdefghi", "A", "aB", "a b", "a1", "!a", "@a", " a", "a\n", "a\\", "{", "`")
        for value in wrong:
            refused(self, InvalidItem, {"field": "command"}, lambda: Say(value))
            refused(self, InvalidItem, {"field": "key"}, lambda: Press(value))
            refused(self, InvalidItem, {"field": "mode"}, lambda: Go(value))
            refused(self, InvalidItem, {"field": "command"}, lambda: Say(command=value))

    def test_numbers(self):
        for number in (0, 1, 2, 10 ** 9 - 1, 10 ** 9):
            self.assertEqual(Times(number).number, number)
            self.assertEqual(Times.of(number, [Say("a")]).number, number)
        for value in NO_INTEGERS + (-1, 10 ** 9 + 1, 10 ** 99, -10 ** 99, 10 ** 4000):
            refused(self, InvalidItem, {"field": "number"}, lambda: Times(value))
            refused(self, InvalidItem, {"field": "number"}, lambda: Times(value, Say("a")))
            # The number is looked at first.
            for items in (["a"], [None, Say("a")], [Say("a")] * 7, [nested(2)], [nested(2), None] * 4):
                refused(self, InvalidItem, {"field": "number"}, lambda: Times(value, *items))
                refused(self, InvalidItem, {"field": "number"}, lambda: Times.of(value, items))

    def test_times_of_a_list(self):
        items = [Say("a"), Press("b")]
        one = Times.of(3, items)
        self.assertEqual(one, Times(3, Say("a"), Press("b")))
        self.assertEqual(Times.of(number=3, items=tuple(items)), one)
        items.append(Go("c"))
        items[0] = Say("z")
        self.assertEqual(one, Times(3, Say("a"), Press("b")))
        self.assertEqual(Times.of(0, []), Times(0))

    def test_equal_items(self):
        for at, one in enumerate(ITEMS):
            for place, other in enumerate(ITEMS):
                self.assertIs(one == other, at == place, (one.text(), other.text()))
                self.assertIs(one != other, at != place)
        self.assertEqual(Times(2, Times(3, Go("a"))), Times.of(2, [Times.of(3, [Go("a")])]))
        for one in ITEMS:
            for value in plain.ODD + (Body(), Body(Say("a")), Body(one), one.text()):
                self.assertIs(one == value, False)
                self.assertIs(value == one, False)
                self.assertIs(one != value, True)

    def test_times_within_times(self):
        self.assertEqual(Times(1, Times(1)).body.depth, 1)
        for items in ([nested(2)], [Say("a"), nested(2)], [nested(1), nested(2), Say("a")]):
            refused(self, TooDeep, {"limit": 2}, lambda: Times(1, *items))
            refused(self, TooDeep, {"limit": 2}, lambda: Times.of(1, items))
            refused(self, TooDeep, {"limit": 2}, lambda: Times(0, *items))

    def test_errors_of_items_come_as_those_of_a_body(self):
        for made in (lambda items: Times(1, *items), lambda items: Times.of(1, items)):
            refused(self, NotAnItem, {"index": 7}, lambda: made([nested(2)] * 7 + [None]))
            refused(self, NotAnItem, {"index": 0}, lambda: made([Body()] + [nested(2)] * 7))
            refused(self, TooMany, {"limit": 6}, lambda: made([nested(2)] * 7))
            refused(self, TooDeep, {"limit": 2}, lambda: made([nested(2)] * 6))
            self.assertEqual(len(made([nested(1)] * 6).body), 6)


class Bodies(unittest.TestCase):

    def test_made_by_arguments_and_by_lists(self):
        items = [Say("a"), Press("b"), Times(2, Go("c"))]
        one = Body(*items)
        self.assertEqual(one, Body.of(items))
        self.assertEqual(one, Body.of(items=tuple(items)))
        self.assertEqual(one.entries, tuple(items))
        self.assertIs(type(one.entries), tuple)
        items.append(Say("z"))
        items[0] = Say("q")
        self.assertEqual(one, Body(Say("a"), Press("b"), Times(2, Go("c"))))
        self.assertEqual(one.text(), "!a b 2(@c)")
        self.assertEqual((Body().entries, Body.of([]), Body().text()), ((), Body(), ""))

    def test_entries_length_and_items_at_places(self):
        draw = plain.drawing(51)
        for _ in range(100):
            items = [plainplay.item_of(item) for item in plainplay.some_items(draw, "mn", "ab", "xy", 2)]
            body = Body.of(items)
            self.assertEqual(len(body), len(items))
            self.assertEqual(list(body.entries), items)
            self.assertEqual([body[index] for index in range(len(items))], items)
            for value in NO_INTEGERS + (-1, len(items), len(items) + 1, 10 ** 99, -len(items) - 1):
                refused(self, OutOfRange, {"value": value}, lambda value=value: body[value])
            cut = slice(0, 1)
            refused(self, OutOfRange, {"value": cut}, lambda: body[cut])

    def test_depth(self):
        self.assertEqual([Body().depth, Body(Say("a")).depth, Body(Times(0)).depth, Body(Times(1, Times(1))).depth], [0, 0, 1, 2])
        self.assertEqual(Body(Times(1), Say("a"), Times(1, Say("a"), Times(2)), Times(3)).depth, 2)
        self.assertEqual(Body(nested(1)).depth, 1)
        self.assertEqual(Body(nested(2), nested(1)).depth, 2)

    def test_no_items(self):
        for value in ANY:
            if isinstance(value, Item):
                continue
            for ahead in range(3):
                items = [Say("a")] * ahead + [value]
                for more in ([], [None], [Say("b")] * 7):
                    refused(self, NotAnItem, {"index": ahead}, lambda: Body(*items, *more))
                    refused(self, NotAnItem, {"index": ahead}, lambda: Body.of(items + more))
        refused(self, NotAnItem, {"index": 9}, lambda: Body(*[Say("a")] * 9, Body(Say("a"))))
        self.assertEqual(len([value for value in OBJECTS if isinstance(value, Item)]), 4)

    def test_too_many_items(self):
        for item in ITEMS:
            self.assertEqual(len(Body(*[item] * 6)), 6)
            for many in (7, 8, 100):
                refused(self, TooMany, {"limit": 6}, lambda: Body(*[item] * many))
                refused(self, TooMany, {"limit": 6}, lambda: Body.of([item] * many))

    def test_equal_bodies(self):
        bodies_ = [Body.of(items) for size in range(3) for items in itertools.product(ITEMS, repeat=size)]
        for at, one in enumerate(bodies_[:60]):
            for place, other in enumerate(bodies_):
                self.assertIs(one == other, at == place)
                self.assertIs(one != other, at != place)
        for one in bodies_[:3]:
            for value in plain.ODD + (one.entries, list(one.entries), one.text()):
                self.assertIs(one == value, False)
                self.assertIs(value == one, False)

    def test_bodies_are_not_iterated_over(self):
        for body in (Body(), Body(Say("a")), Body(*[Say("a")] * 6)):
            for action in (iter, list, tuple, lambda value: Say("a") in value, lambda value: Body(*value)):
                with self.assertRaises(TypeError):
                    action(body)

    def test_a_body_is_no_item(self):
        refused(self, NotAnItem, {"index": 0}, lambda: Body(Body()))
        refused(self, NotAnItem, {"index": 1}, lambda: Times(2, Say("a"), Body(Say("a"))))

    def test_defined_in_its_file(self):
        for name in ("Item", "Say", "Press", "Go", "Times", "Body"):
            self.assertEqual(getattr(bodies, name).__module__, "onestroke.bodies")
        for name in ("of", "read"):
            self.assertIsInstance(vars(Body)[name], classmethod)
        self.assertIsInstance(vars(Times)["of"], classmethod)
        for name in ("entries", "depth"):
            self.assertIsInstance(vars(Body)[name], property)
        for made in (Say, Press, Go, Times, Body):
            self.assertTrue({"__init__", "__eq__", "text"} <= set(vars(made)))
        self.assertTrue({"__len__", "__getitem__", "__iter__"} <= set(vars(Body)))

    def test_the_example(self):
        self.assertEqual(
            [Body(Say("x"), Times(3, Press("a"), Go("n")), Press("b")).text(), Body.read("2(3(!x)) a").depth, len(Body())],
            ["!x 3(a @n) b", 2, 0])


if __name__ == "__main__":
    unittest.main()
