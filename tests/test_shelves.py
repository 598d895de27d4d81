"""Shelves: promise 18."""

import random
import unittest

from thingyard.errors import BadBound
from thingyard.shelves import Shelf


def key(number):
    return ("k", number)


def filled(bound, number):
    shelf = Shelf(bound)
    for k in range(number):
        shelf.lay(key(k), "t" + str(k))
    return shelf


class BoundsTest(unittest.TestCase):

    def test_bounds(self):
        for bound in (0, 1, 2, 17, 999, 1000):
            shelf = Shelf(bound)
            self.assertEqual(shelf.bound, bound)
            self.assertEqual(shelf.keys_kept(), [])
        self.assertEqual(Shelf(bound=3).bound, 3)

    def test_what_is_no_bound(self):
        for wrong in (-1, 1001, -1000, 10 ** 30, -10 ** 30, True, False, None, "", "5", 1.0, 0.0, 2.5, float("nan"),
                      float("inf"), 1j, b"5", [], [5], (), (5,), {}, {5: 5}, {5}, object(), int, len):
            with self.subTest(wrong=repr(wrong)):
                with self.assertRaises(BadBound):
                    Shelf(wrong)

    def test_a_bound_of_nought_keeps_nothing(self):
        shelf = Shelf(0)
        for k in range(3):
            self.assertIsNone(shelf.lay(key(k), "t"))
            self.assertIsNone(shelf.look(key(k)))
            self.assertEqual(shelf.keys_kept(), [])

    def test_a_bound_of_one(self):
        shelf = Shelf(1)
        shelf.lay(key(0), "a")
        self.assertEqual(shelf.look(key(0)), "a")
        shelf.lay(key(1), "b")
        self.assertIsNone(shelf.look(key(0)))
        self.assertEqual(shelf.look(key(1)), "b")
        self.assertEqual(shelf.keys_kept(), [key(1)])

    def test_a_bound_of_1000(self):
        shelf = filled(1000, 1000)
        self.assertEqual(shelf.keys_kept(), [key(k) for k in range(1000)])
        self.assertEqual(shelf.look(key(0)), "t0")
        shelf.lay(key(1000), "t")
        self.assertIsNone(shelf.look(key(1)))
        self.assertEqual(shelf.keys_kept(), [key(k) for k in range(2, 1000)] + [key(0), key(1000)])


class UseTest(unittest.TestCase):

    def test_look_and_lay(self):
        shelf = Shelf(5)
        self.assertIsNone(shelf.look(("a",)))
        self.assertIsNone(shelf.lay(("a",), "text"))
        self.assertEqual(shelf.look(("a",)), "text")
        self.assertEqual(shelf.look(("a",)), "text")
        self.assertIsNone(shelf.look(("b",)))

    def test_things_of_each_kind(self):
        shelf = Shelf(10)
        things = ["", "text", 0, 7, -1, (), ("text", "T"), ("a", 1, None, ("b", ())), "\n"]
        for place, thing in enumerate(things):
            shelf.lay(key(place), thing)
        for place, thing in enumerate(things):
            self.assertEqual(shelf.look(key(place)), thing)
            self.assertIs(type(shelf.look(key(place))), type(thing))

    def test_laid_anew(self):
        shelf = filled(3, 3)
        shelf.lay(key(0), "new")
        self.assertEqual(shelf.keys_kept(), [key(1), key(2), key(0)])
        self.assertEqual(shelf.look(key(0)), "new")
        shelf.lay(key(1), "t1")
        self.assertEqual(shelf.keys_kept(), [key(2), key(0), key(1)])
        shelf.lay(key(3), "t")
        self.assertEqual(shelf.keys_kept(), [key(0), key(1), key(3)])

    def test_looking_uses_a_key(self):
        shelf = filled(3, 3)
        shelf.look(key(0))
        self.assertEqual(shelf.keys_kept(), [key(1), key(2), key(0)])
        shelf.lay(key(3), "t")
        self.assertEqual(shelf.keys_kept(), [key(2), key(0), key(3)])

    def test_looking_at_what_is_not_there_uses_nothing(self):
        shelf = filled(3, 3)
        self.assertIsNone(shelf.look(key(9)))
        self.assertEqual(shelf.keys_kept(), [key(0), key(1), key(2)])

    def test_let_go_in_the_order_of_use(self):
        shelf = filled(3, 10)
        self.assertEqual(shelf.keys_kept(), [key(7), key(8), key(9)])
        for k in range(7):
            self.assertIsNone(shelf.look(key(k)))

    def test_let_go_and_laid_again(self):
        shelf = filled(2, 3)
        shelf.lay(key(0), "again")
        self.assertEqual(shelf.keys_kept(), [key(2), key(0)])
        self.assertEqual(shelf.look(key(0)), "again")

    def test_keys_of_each_kind(self):
        keys = [(), ("a",), ("b",), ("",), (0,), (1,), (-1,), (-2,), (None,), ("None",), ("0",), ("a", None), (None, "a"),
                ("a", "a"), ((),), ((), ()), (("a",),), ("a", ("a",)), (("a", "a"),), ("a", 1), ("a", "1"), ("a", (1,)),
                ("a", None, (("b", "c"),)), ("a", None, (("b", "d"),)), ("a", None, (("c", "c"),)), ("a", "s", (("b", "c"),)),
                ("a", None, ()), ("a", None, (("b", "c"), ("d", "e"))), ("a", None, (("d", "e"), ("b", "c"))),
                ("a", None, ("b", "c")), ("aa",), ("A",), ("a ",), ("a\n",), (10 ** 30,), (((((None,),),),),)]
        shelf = Shelf(1000)
        for place, one in enumerate(keys):
            self.assertIsNone(shelf.look(one), one)
            shelf.lay(one, place)
        for place, one in enumerate(keys):
            self.assertEqual(shelf.look(one), place, one)
        self.assertEqual(shelf.keys_kept(), keys)

    def test_equal_keys_are_one(self):
        shelf = Shelf(5)
        shelf.lay(("a", ("b", 1)), "x")
        shelf.lay(tuple(["a", tuple(["b", 1])]), "y")
        self.assertEqual(shelf.keys_kept(), [("a", ("b", 1))])
        self.assertEqual(shelf.look(("a", ("b", 1))), "y")

    def test_two_shelves_beside_one_another(self):
        first, second = Shelf(2), Shelf(3)
        first.lay(key(0), "first")
        self.assertIsNone(second.look(key(0)))
        second.lay(key(0), "second")
        second.lay(key(1), "second")
        self.assertEqual(first.look(key(0)), "first")
        self.assertEqual(first.keys_kept(), [key(0)])
        self.assertEqual(second.keys_kept(), [key(0), key(1)])
        self.assertEqual((first.bound, second.bound), (2, 3))

    def test_the_list_of_keys_is_the_askers_own(self):
        shelf = filled(3, 3)
        kept = shelf.keys_kept()
        kept.clear()
        self.assertEqual(shelf.keys_kept(), [key(0), key(1), key(2)])
        kept = shelf.keys_kept()
        kept.append(key(7))
        self.assertIsNone(shelf.look(key(7)))
        kept = shelf.keys_kept()
        shelf.lay(key(3), "t")
        self.assertEqual(kept, [key(0), key(1), key(2)])

    def test_listing_uses_nothing(self):
        shelf = filled(3, 3)
        shelf.keys_kept()
        shelf.lay(key(3), "t")
        self.assertEqual(shelf.keys_kept(), [key(1), key(2), key(3)])

    def test_against_a_plain_list(self):
        chance = random.Random(18)
        for bound in (0, 1, 2, 3, 7):
            shelf, rows = Shelf(bound), []
            for step in range(400):
                wanted = key(chance.randrange(10))
                there = [row for row in rows if row[0] == wanted]
                if chance.random() < 0.5:
                    self.assertEqual(shelf.look(wanted), there[0][1] if there else None)
                    rows = [row for row in rows if row[0] != wanted] + there
                else:
                    shelf.lay(wanted, step)
                    rows = ([row for row in rows if row[0] != wanted] + [(wanted, step)])[-bound:] if bound else []
                self.assertEqual(shelf.keys_kept(), [row[0] for row in rows])

    def test_the_arguments_have_their_names(self):
        shelf = Shelf(2)
        shelf.lay(key=("a",), thing="b")
        self.assertEqual(shelf.look(key=("a",)), "b")


if __name__ == "__main__":
    unittest.main()
