"""The refusals: what stands under what, and their fields."""

import unittest

from thingyard import errors
from thingyard.errors import BadBook, BadBound, BadName, BadRecipe, BadText, NoThing, YardError

SIX = (BadText, BadName, BadRecipe, BadBook, BadBound, NoThing)


def made(kind):
    if kind is BadRecipe:
        return BadRecipe(3)
    if kind is BadBook:
        return BadBook(2, 5)
    return kind("some words")


class ClassesTest(unittest.TestCase):

    def test_any_refusal_is_a_value_error(self):
        self.assertTrue(issubclass(YardError, ValueError))
        self.assertIsInstance(YardError("some words"), ValueError)

    def test_each_is_a_yard_error(self):
        for kind in SIX:
            with self.subTest(kind=kind.__name__):
                self.assertIsInstance(made(kind), YardError)
                self.assertIsInstance(made(kind), ValueError)
                self.assertIsNot(kind, YardError)

    def test_none_is_one_of_the_other_five(self):
        for kind in SIX:
            for other in SIX:
                if kind is not other:
                    with self.subTest(kind=kind.__name__, other=other.__name__):
                        self.assertNotIsInstance(made(kind), other)

    def test_each_is_taken_by_its_own_name(self):
        for kind in SIX:
            with self.subTest(kind=kind.__name__):
                with self.assertRaises(kind):
                    raise made(kind)

    def test_they_stand_under_their_names(self):
        for kind in (YardError,) + SIX:
            with self.subTest(kind=kind.__name__):
                self.assertIs(getattr(errors, kind.__name__), kind)


class FieldsTest(unittest.TestCase):

    def test_bad_recipe_has_its_place(self):
        for place in (0, 1, 17, 900, 901):
            with self.subTest(place=place):
                self.assertEqual(BadRecipe(place).place, place)
        self.assertEqual(BadRecipe(place=4).place, 4)

    def test_bad_book_has_its_row_and_place(self):
        for row, place in ((1, 0), (7, 3), (3, 7), (900, 899)):
            with self.subTest(row=row, place=place):
                refusal = BadBook(row, place)
                self.assertEqual(refusal.row, row)
                self.assertEqual(refusal.place, place)
        refusal = BadBook(place=8, row=2)
        self.assertEqual((refusal.row, refusal.place), (2, 8))

    def test_two_refusals_have_places_of_their_own(self):
        first = BadRecipe(1)
        second = BadRecipe(2)
        self.assertEqual((first.place, second.place), (1, 2))

    def test_the_fields_are_there_where_it_is_taken(self):
        with self.assertRaises(YardError) as taken:
            raise BadBook(4, 9)
        self.assertEqual((taken.exception.row, taken.exception.place), (4, 9))


if __name__ == "__main__":
    unittest.main()
