import unittest

from restitch import errors
from restitch.errors import (
    AssemblyError, BookError, ImageError, LinkError, RestitchError, ScriptError, UnknownWord,
)


class Errors(unittest.TestCase):
    def test_the_base_is_a_value_error(self):
        self.assertEqual(RestitchError.__bases__, (ValueError,))
        self.assertIsInstance(RestitchError("words"), ValueError)

    def test_each_stands_below_the_base(self):
        for name in ("AssemblyError", "BookError", "ImageError", "LinkError", "ScriptError", "UnknownWord"):
            self.assertTrue(issubclass(getattr(errors, name), RestitchError), name)

    def test_none_stands_below_another_one(self):
        kinds = [AssemblyError, BookError, ImageError, LinkError, ScriptError, UnknownWord]
        for kind in kinds:
            for other in kinds:
                self.assertEqual(issubclass(kind, other), kind is other)

    def test_the_fields(self):
        self.assertEqual(AssemblyError(3).line, 3)
        self.assertEqual(ImageError(0).at, 0)
        self.assertEqual(ScriptError(17).at, 17)
        self.assertEqual(UnknownWord("mend").word, "mend")
        error = LinkError(-1, "start")
        self.assertEqual((error.part, error.code), (-1, "start"))

    def test_they_are_raised_and_caught(self):
        for error in (
            AssemblyError(1), BookError("no book"), BookError(), ImageError(4), LinkError(0, "need"),
            ScriptError(2), UnknownWord("x"),
        ):
            with self.assertRaises(RestitchError) as caught:
                raise error
            self.assertIs(caught.exception, error)

    def test_the_message_names_the_field(self):
        self.assertIn("12", str(AssemblyError(12)))
        self.assertIn("12", str(ImageError(12)))
        self.assertIn("12", str(ScriptError(12)))
        self.assertIn("mend", str(UnknownWord("mend")))
        self.assertIn("12", str(LinkError(12, "form")))
        self.assertIn("form", str(LinkError(12, "form")))


if __name__ == "__main__":
    unittest.main()
