"""The interface of tonguerank.errors: which classes there are, where they stand, what they hold."""

import unittest

from tonguerank import errors

NAMES = (
    "NoCount", "NoMarks", "NoWord", "NoRanking", "NoRow", "NoMove", "Clash", "NoSaying",
    "NoMachine", "NoRoom", "NoLetter", "TooMany", "NoNames", "NoText",
)
WITH_FIELD = ("Clash", "TooMany")


class Places(unittest.TestCase):
    def test_rank_error_stands_straight_under_value_error(self):
        self.assertEqual(errors.RankError.__bases__, (ValueError,))

    def test_each_refusal_stands_straight_under_rank_error(self):
        for name in NAMES:
            with self.subTest(name=name):
                self.assertEqual(getattr(errors, name).__bases__, (errors.RankError,))

    def test_each_refusal_is_a_class_of_its_own_name(self):
        for name in NAMES:
            with self.subTest(name=name):
                self.assertEqual(getattr(errors, name).__name__, name)

    def test_no_refusal_stands_under_another(self):
        for name in NAMES:
            for other in NAMES:
                if name != other:
                    with self.subTest(name=name, other=other):
                        self.assertFalse(issubclass(getattr(errors, name), getattr(errors, other)))

    def test_each_refusal_is_taken_as_rank_error_and_as_value_error(self):
        for name in NAMES:
            for above in (errors.RankError, ValueError):
                with self.subTest(name=name, above=above):
                    with self.assertRaises(above):
                        raise getattr(errors, name)([])


class Fields(unittest.TestCase):
    def test_clash_has_places(self):
        self.assertEqual(errors.Clash([0, 2, 5]).places, [0, 2, 5])
        self.assertEqual(errors.Clash([]).places, [])

    def test_too_many_has_texts(self):
        self.assertEqual(errors.TooMany(["", "a", "ab"]).texts, ["", "a", "ab"])

    def test_a_field_is_there_where_the_error_is_taken(self):
        with self.assertRaises(errors.RankError) as taken:
            raise errors.Clash([1, 3])
        self.assertEqual(taken.exception.places, [1, 3])
        with self.assertRaises(errors.RankError) as taken:
            raise errors.TooMany(["b"])
        self.assertEqual(taken.exception.texts, ["b"])

    def test_a_field_is_a_list_of_its_own(self):
        places = [0, 1]
        one = errors.Clash(places)
        two = errors.Clash(places)
        places.append(2)
        one.places.append(7)
        self.assertEqual(one.places, [0, 1, 7])
        self.assertEqual(two.places, [0, 1])
        texts = ["a"]
        many = errors.TooMany(texts)
        texts.clear()
        self.assertEqual(many.texts, ["a"])

    def test_the_fields_are_those_of_their_class_alone(self):
        for name in NAMES:
            error = getattr(errors, name)([])
            with self.subTest(name=name):
                self.assertEqual(hasattr(error, "places"), name == "Clash")
                self.assertEqual(hasattr(error, "texts"), name == "TooMany")

    def test_the_fields_are_set_when_the_error_is_made(self):
        for name in WITH_FIELD:
            with self.subTest(name=name):
                cls = getattr(errors, name)
                self.assertFalse(hasattr(cls, "places") or hasattr(cls, "texts"))


if __name__ == "__main__":
    unittest.main()
