import inspect
import unittest

from helpers import image_of
from samples import CALLS, COUNTING, ECHO, FIXED, NO_CODE, SWITCH, WILD
from restitch import copies, dead, house, known, tidy, weave
from restitch.checker import check
from restitch.errors import RestitchError, ScriptError, UnknownWord
from restitch.first import first_book
from restitch.house import WORDS, House, read_script, rewrite, show_script
from restitch.layout import lay
from restitch.weave import counted

REWRITINGS = {
    "copies": copies.copies, "dead": dead.dead, "drop": tidy.drop, "join": tidy.join, "known": known.known, "order": tidy.order,
    "reuse": known.reuse, "weave": weave.weave,
}


class Words(unittest.TestCase):
    def test_words(self):
        self.assertEqual(WORDS, ("copies", "dead", "drop", "join", "known", "order", "reuse", "weave"))

    def test_defaults(self):
        defaults = {"copies": 8, "dead": 0, "drop": 0, "join": 1000, "known": 1000, "order": 0, "reuse": 1000, "weave": 0}
        self.assertEqual(house.AMOUNTS, defaults)
        for word, function in REWRITINGS.items():
            signature = inspect.signature(function)
            self.assertEqual(list(signature.parameters), ["image", "book", "paper", "amount"])
            self.assertEqual(signature.parameters["amount"].default, defaults[word])
            self.assertEqual(signature.parameters["amount"].kind, inspect.Parameter.KEYWORD_ONLY)


class Scripts(unittest.TestCase):
    def test_reading(self):
        for text, script in (
            ("", []), ("   ", []), ("join", [("join", -1)]), ("  join  ", [("join", -1)]), ("join:0", [("join", 0)]),
            ("join:5 known reuse:999999  dead", [("join", 5), ("known", -1), ("reuse", 999999), ("dead", -1)]),
            ("weave:10 weave:1", [("weave", 10), ("weave", 1)]), (" order:7 ", [("order", 7)]),
        ):
            self.assertEqual(read_script(text), script, text)

    def test_showing(self):
        self.assertEqual(show_script([]), "")
        self.assertEqual(show_script([("join", -1)]), "join")
        self.assertEqual(show_script([("join", 0), ("known", -1), ("copies", 12)]), "join:0 known copies:12")

    def test_there_and_back(self):
        amounts = (-1, 0, 1, 9, 10, 105, 999999)
        for word in WORDS:
            for amount in amounts:
                for other in WORDS:
                    script = [(word, amount), (other, -1), (word, 3)]
                    self.assertEqual(read_script(show_script(script)), script)
        script = [(WORDS[k % 8], amounts[k % 7]) for k in range(200)]
        self.assertEqual(read_script(show_script(script)), script)

    def test_wrong_scripts(self):
        for text, at in (
            ("bogus", 0), ("join bogus", 5), ("joi", 0), ("joins", 0), ("Join", 0), (" JOIN", 1), ("join joint:5", 5), (":5", 0), ("join :5", 5),
            ("5", 0), ("join 5", 5), ("join:", 5), ("join: 5", 5), ("join: ", 5), ("join:x", 5), ("join:5x", 6), ("join:05", 6), ("join:00", 6),
            ("join:-1", 5), ("join:+1", 5), ("join::5", 5), ("join:5:5", 6), ("join:1234567", 11), ("join:1000000 known", 11), ("join:5,", 6),
            ("known join:12 drop:0x", 20), ("join:5known", 6), ("-", 0), ("weave:1.5", 7), ("join:5\n", 6),
        ):
            with self.assertRaises(ScriptError, msg=text) as caught:
                read_script(text)
            self.assertEqual(caught.exception.at, at, text)
            self.assertIsInstance(caught.exception, RestitchError)

    def test_an_unknown_word_is_told_at_its_first_character(self):
        # Whatever characters it has: words are what blanks and colons part.
        for text in ("join,drop", "join5", "join;"):
            with self.assertRaises(ScriptError) as caught:
                read_script("known " + text)
            self.assertEqual(caught.exception.at, 6)


class Rewriting(unittest.TestCase):
    def test_nothing(self):
        for image in FIXED:
            for whole in (False, True):
                self.assertEqual(rewrite(image, [], whole=whole), first_book(image, whole=whole))
        self.assertEqual(rewrite(ECHO, ()), first_book(ECHO))

    def test_each_word_with_its_default_and_an_amount(self):
        for image in FIXED:
            pair = first_book(image)
            for word, function in REWRITINGS.items():
                self.assertEqual(rewrite(image, [(word, -1)]), function(image, *pair))
                for amount in (0, 1, 2, 999999):
                    self.assertEqual(rewrite(image, [(word, amount)]), function(image, *pair, amount=amount))

    def test_the_order_of_the_words(self):
        for script in ([("copies", -1), ("drop", -1), ("join", 1)], [("join", 1), ("drop", -1), ("copies", -1)]):
            pair = first_book(CALLS, whole=False)
            for word, amount in script:
                pair = REWRITINGS[word](CALLS, *pair, **({} if amount == -1 else {"amount": amount}))
            self.assertEqual(rewrite(CALLS, script), pair)

    def test_unknown_words(self):
        for script, word in (
            ([("bogus", -1)], "bogus"), ([("join", -1), ("Drop", 5), ("bogus", 1)], "Drop"), ([("", -1)], ""), ([("first_book", -1)], "first_book"),
        ):
            with self.assertRaises(UnknownWord) as caught:
                rewrite(ECHO, script)
            self.assertEqual(caught.exception.word, word)
            # Before anything is done: the image is not looked at.
            with self.assertRaises(UnknownWord):
                rewrite(None, script)


class Houses(unittest.TestCase):
    def test_at_first(self):
        for image in FIXED:
            home = House(image)
            self.assertEqual((home.book, home.paper), first_book(image))
            self.assertEqual(home.size(), len(lay(home.book)[0]))
            self.assertIs(home.undo(), False)
            self.assertEqual((home.book, home.paper), first_book(image))

    def test_apply(self):
        home = House(CALLS)
        self.assertIs(home.apply("join"), False)
        self.assertIs(home.apply("copies"), True)
        self.assertEqual((home.book, home.paper), rewrite(CALLS, [("copies", -1)]))
        self.assertIs(home.apply("drop"), True)
        self.assertIs(home.apply("drop"), False)
        self.assertIs(home.apply("join", amount=0), False)
        self.assertIs(home.apply("join", amount=1), True)
        self.assertEqual((home.book, home.paper), rewrite(CALLS, [("copies", -1), ("drop", -1), ("join", 1)]))
        self.assertIs(check(CALLS, home.book, home.paper), True)

    def test_a_change_of_the_paper_alone(self):
        home = House(ECHO)
        before = home.book
        self.assertIs(home.apply("dead"), True)
        self.assertEqual(home.book, before)

    def test_undo(self):
        home = House(CALLS)
        pairs = [(home.book, home.paper)]
        for word in ("copies", "join", "weave", "drop", "join"):
            home.apply(word)
            pairs.append((home.book, home.paper))
        for pair in pairs[-2::-1]:
            self.assertIs(home.undo(), True)
            self.assertEqual((home.book, home.paper), pair)
        self.assertIs(home.undo(), False)
        self.assertEqual((home.book, home.paper), pairs[0])

    def test_undo_and_apply_again(self):
        home = House(CALLS)
        home.apply("copies")
        home.apply("weave")
        home.undo()
        home.apply("drop")
        self.assertEqual((home.book, home.paper), rewrite(CALLS, [("copies", -1), ("drop", -1)]))
        self.assertIs(home.undo(), True)
        self.assertEqual((home.book, home.paper), rewrite(CALLS, [("copies", -1)]))
        self.assertIs(home.undo(), True)
        self.assertIs(home.undo(), False)

    def test_an_apply_that_changed_nothing_is_undone_too(self):
        home = House(CALLS)
        home.apply("copies")
        home.apply("join", amount=0)
        self.assertIs(home.undo(), True)
        self.assertEqual(home.book, rewrite(CALLS, [("copies", -1)])[0])
        self.assertIs(home.undo(), True)
        self.assertEqual(home.book, first_book(CALLS)[0])
        self.assertIs(home.undo(), False)

    def test_unknown_words(self):
        home = House(CALLS)
        home.apply("copies")
        pair = (home.book, home.paper)
        with self.assertRaises(UnknownWord) as caught:
            home.apply("bogus", amount=5)
        self.assertEqual(caught.exception.word, "bogus")
        self.assertEqual((home.book, home.paper), pair)
        self.assertIs(home.undo(), True)
        self.assertIs(home.undo(), False)

    def test_play(self):
        home = House(ECHO)
        self.assertEqual(home.play([5, 6, 0]), [[5, 6], ("exit", 0), []])
        home.apply("weave")
        self.assertEqual(home.play((5, 6, 0)), [[5, 6], ("exit", 0), [(64, 3), (72, 2), (80, 1)]])
        self.assertEqual(home.play([5], fuel=1), [[], ("none",), [(64, 1), (72, 0), (80, 0)]])
        self.assertEqual(home.play([], fuel=0), [[], ("none",), [(64, 0), (72, 0), (80, 0)]])
        found = home.play([1])
        self.assertEqual((found[1], len(found[0])), (("none",), 1666))
        self.assertEqual(House(NO_CODE).play([]), [[], ("trap", "fetch", 2), []])
        self.assertEqual(counted(home.paper, [(1, 9)]), [(64, 0), (72, 9), (80, 0)])

    def test_size(self):
        home = House(COUNTING)
        first = home.size()
        self.assertEqual(first, len(lay(first_book(COUNTING)[0])[0]))
        home.apply("known")
        home.apply("dead")
        self.assertEqual(home.size(), len(lay(home.book)[0]))
        home.apply("weave")
        self.assertGreater(home.size(), first)

    def test_parts(self):
        for image in FIXED:
            home = House(image)
            for word in ("", *WORDS):
                if word:
                    home.apply(word)
                for data in ([], [0], [8, 4, 0], [4] * 30):
                    self.assertIsNone(home.parts(data))
                    self.assertIsNone(home.parts(data, fuel=3))

    def test_parts_of_a_book_that_is_another_one(self):
        home = House(ECHO)
        other = House(image_of([("exit", 5)]))
        home.pair = (((0, (("li", 5, 9),), ("exit", 5)),), 0, ()), home.paper
        self.assertEqual(home.parts([7, 0]), (([7], ("exit", 0)), ([], ("exit", 9))))
        self.assertIsNone(home.parts([], fuel=200))
        self.assertIsNone(home.parts([7, 0], fuel=3))
        self.assertIsNone(other.parts([]))
        home.pair = (((0, (), ("go", 0)),), 0, ()), home.paper
        self.assertEqual(home.parts([0]), (([], ("exit", 0)), ([], ("none",))))

    def test_houses_do_not_share(self):
        one, other = House(SWITCH), House(SWITCH)
        one.apply("weave")
        self.assertNotEqual(one.book, other.book)
        self.assertIs(other.undo(), False)
        self.assertEqual(House(WILD).book, first_book(WILD)[0])


if __name__ == "__main__":
    unittest.main()
