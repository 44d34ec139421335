"""Promises 2 and 6: webs written and read."""

import re
import unittest

from friendfoe.errors import NoText, WebError
from friendfoe.texting import read_web, show_web
from friendfoe.webs import is_web, is_weights
from samples import SIXTY, WEBS, assert_steady, great_web, plain_wrong, small_webs, spoiled

GREAT = 10 ** 31 - 1  # thirty-one figures
NUMBER = "(?:0|[1-9][0-9]{0,30})"
TIE = f"\n{NUMBER} {NUMBER} (?:friend|foe)"
TEXT = re.compile(f"web {NUMBER}(?:(?:{TIE})*|(?:{TIE} {NUMBER})*)")


def is_text(text):
    """The same by another way: by the look of the text, then by its numbers."""
    if not TEXT.fullmatch(text):
        return False
    first, *rows = [line.split(" ") for line in text.split("\n")]
    many = int(first[1])
    return many > 0 and all(int(row[0]) != int(row[1]) and int(row[0]) < many and int(row[1]) < many
                            and "0" not in row[3:] for row in rows)


class Shown(unittest.TestCase):
    def test_ordinary(self):
        web = (12, ((0, 1, "friend"), (11, 3, "foe"), (0, 1, "foe")))
        self.assertEqual(show_web(web), "web 12\n0 1 friend\n11 3 foe\n0 1 foe")
        self.assertEqual(show_web(web, None), "web 12\n0 1 friend\n11 3 foe\n0 1 foe")
        self.assertEqual(show_web(web, (1, 20, 10 ** 30)),
                         "web 12\n0 1 friend 1\n11 3 foe 20\n0 1 foe 1" + "0" * 30)

    def test_no_ties(self):
        self.assertEqual(show_web((1, ())), "web 1")
        self.assertEqual(show_web((40, ()), ()), "web 40")
        self.assertEqual(show_web((40, ()), None), "web 40")

    def test_read_again(self):
        for web in WEBS + small_webs():
            weights = tuple(10 ** 30 - number if number % 2 else number + 1 for number in range(len(web[1])))
            self.assertEqual(read_web(show_web(web)), (web, None))
            self.assertEqual(read_web(show_web(web, weights)), (web, weights if web[1] else None))

    def test_nothing_is_changed(self):
        for web in WEBS:
            assert_steady(self, show_web, web)
            assert_steady(self, show_web, web, (10 ** 30,) * len(web[1]))


class Read(unittest.TestCase):
    def refused(self, thing):
        with self.assertRaises(NoText) as told:
            read_web(thing)
        self.assertIs(type(told.exception), NoText)
        self.assertIsInstance(told.exception, WebError)
        self.assertTrue(str(told.exception))

    def test_ordinary(self):
        self.assertEqual(read_web("web 3\n2 1 foe\n0 1 friend"), ((3, ((2, 1, "foe"), (0, 1, "friend"))), None))
        self.assertEqual(read_web("web 3\n2 1 foe 5\n0 1 friend 70"), ((3, ((2, 1, "foe"), (0, 1, "friend"))), (5, 70)))

    def test_no_ties(self):
        self.assertEqual(read_web("web 1"), ((1, ()), None))
        self.assertEqual(read_web("web 40"), ((40, ()), None))

    def test_ties_of_the_same_places(self):
        self.assertEqual(read_web("web 2\n0 1 foe\n1 0 foe\n0 1 friend"),
                         ((2, ((0, 1, "foe"), (1, 0, "foe"), (0, 1, "friend"))), None))

    def test_bounds_are_not_asked(self):
        self.assertEqual(read_web("web 41"), ((41, ()), None))
        self.assertEqual(read_web(f"web {GREAT}"), ((GREAT, ()), None))
        self.assertEqual(read_web(f"web {GREAT}\n{GREAT - 1} 0 foe {GREAT}"),
                         ((GREAT, ((GREAT - 1, 0, "foe"),)), (GREAT,)))
        many = great_web(many=60, ties=600)
        self.assertEqual(read_web(show_web(many)), (many, None))

    def test_thirty_two_figures(self):
        self.refused(f"web {GREAT + 1}")
        self.refused(f"web {SIXTY}")
        self.refused(f"web {GREAT}\n{GREAT + 1} 0 foe")
        self.refused(f"web 2\n0 1 foe {GREAT + 1}")
        self.refused("web 2\n0 1 foe " + "1" * 5000)

    def test_figures(self):
        for number in ("01", "00", "002", "+2", "-2", "2.0", "2_0", " 2", "2 ", "", "0x2", "two", "1e1", "\u0662",
                       "\u00b2", "\uff12", "0" * 31, "0" * 30 + "2"):
            self.refused("web " + number)
            self.refused(f"web 5\n{number} 1 foe")
            self.refused(f"web 5\n1 {number} foe")
            self.refused(f"web 5\n1 2 foe {number}")

    def test_numbers_that_no_web_has(self):
        self.refused("web 0")
        for tie in ("0 0 foe", "1 1 friend", "0 2 foe", "2 0 foe", "0 1 foe 0"):
            self.refused("web 2\n" + tie)
            self.refused("web 2\n0 1 foe" + " 7" * (len(tie.split()) - 3) + "\n" + tie)

    def test_weights_at_some_ties_only(self):
        for text in ("web 2\n0 1 foe 1\n0 1 foe", "web 2\n0 1 foe\n0 1 foe 1", "web 2\n0 1 foe 1\n0 1 foe\n0 1 foe 1"):
            self.refused(text)

    def test_blanks_and_line_ends(self):
        for text in ("web 2", "web 2\n0 1 foe", "web 2\n0 1 foe 3"):
            for more in (" ", "\n", "\t", "\r", "  ", "\n\n", "\0", "\v", "\f", "\r\n"):
                self.refused(text + more)
                self.refused(more + text)
                for at, sign in enumerate(text):
                    if sign in " \n":
                        self.refused(text[:at] + more + text[at:])
                        self.refused(text[:at + 1] + more + text[at + 1:])
        self.refused("web 2\r0 1 foe")
        self.refused("web 2\r\n0 1 foe")
        self.refused("web\t2")
        self.refused("web 2\n0\t1 foe")

    def test_words(self):
        for text in ("", "web", "web ", "web2", "Web 2", "WEB 2", "webs 2", "2", "2 web", "web 2 3", "web web 2",
                     "0 1 foe", "0 1 foe\nweb 2", "web 2 0 1 foe", "web 2\nweb 2", "web 2\n0 1", "web 2\n0 1 2",
                     "web 2\n0 1 Foe", "web 2\n0 1 FRIEND", "web 2\n0 1 enemy", "web 2\n0 1 ", "web 2\n0 1 foe 1 1",
                     "web 2\nfoe 0 1", "web 2\n0 foe 1", "web 2\n1 0 1 foe",
                     "web 2\n0 1 foe 1 friend", "web 2\n0 1 foefriend"):
            self.refused(text)

    def test_each_sign_changed(self):
        for text in ("web 12\n0 11 friend\n3 4 foe", "web 10\n0 9 friend 1\n3 4 foe 20", "web 1"):
            for at in range(len(text) + 1):
                for sign in ["", " ", "\n", "0", "1", "9", "f", "-", "w"]:
                    self.told_or_refused(text[:at] + sign + text[at:])
                    self.told_or_refused(text[:at] + sign + text[at + 1:])

    def told_or_refused(self, text):
        if not is_text(text):
            self.refused(text)
            return
        web, weights = read_web(text)
        self.assertIs(is_web(web), True)
        self.assertIs(is_weights(web, weights), True)
        self.assertEqual(show_web(web, weights), text)

    def test_anything(self):
        for thing in plain_wrong() + [["web 1"], ("web 1",), {"web 1": None}, (1, ()), ((1, ()), None), 1]:
            self.refused(thing)
        for thing in spoiled(("web 1", 2)):
            self.refused(thing)

    def test_nothing_is_changed(self):
        assert_steady(self, read_web, "web 3\n2 1 foe 5\n0 1 friend 70")
        handed = [1, ["web 1"], {"a": []}]
        self.refused(handed)
        self.refused(handed)
        self.assertEqual(handed, [1, ["web 1"], {"a": []}])

    def test_kinds_of_values(self):
        web, weights = read_web("web 3\n2 1 foe 5\n0 1 friend 70")
        self.assertEqual([type(web), type(web[1]), type(web[1][0]), type(weights)], [tuple] * 4)
        self.assertIs(type(read_web("web 1")), tuple)


if __name__ == "__main__":
    unittest.main()
