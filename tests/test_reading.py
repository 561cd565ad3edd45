"""Point 77: the texts of webs."""

import unittest

from rodwebs.errors import BadText
from rodwebs.fracs import Frac
from rodwebs.reading import format_web, parse_web
from rodwebs.webs import Web
from tests.helpers import Looks, source
from tests.told import told_webs

GOOD = "joints level stream\nrod 0 1 2 3/4 twisted\nrod 1 1 1 5\near 1 2\near 0 1/2"
WEB = Web(["level", "stream"], [(0, 1, 2, Frac(3, 4), -1), (1, 1, 1, 5)], [(1, 2), (0, Frac(1, 2))])


class Texts(Looks, unittest.TestCase):
    def test_format(self):
        self.assertEqual(format_web(WEB), GOOD)
        self.assertEqual(format_web(Web()), "joints")
        self.assertEqual(format_web(Web(["stream"])), "joints stream")
        self.assertEqual(format_web(Web(["level", "level"], [(1, 0, 12, 1)], [])), "joints level level\nrod 1 0 12 1")
        self.assertEqual(format_web(Web(["level"], [], [(0, 7)])), "joints level\near 0 7")

    def test_parse(self):
        web = parse_web(GOOD)
        self.assertIs(type(web), Web)
        self.assertEqual(web, WEB)
        self.assertEqual(parse_web("joints"), Web())
        self.assertEqual(parse_web("joints level\near 0 7"), Web(["level"], [], [(0, 7)]))

    def test_there_and_back(self):
        draw = source(77)
        for told in told_webs(draw, 25):
            web = Web(*told.passed())
            self.assertEqual(parse_web(format_web(web)), web)

    def test_written_by_hand(self):
        draw = source(78)
        for told in told_webs(draw, 15):
            lines = [" ".join(["joints"] + told.joints)]
            for start, end, length, strength, twist in told.rods:
                lines.append(f"rod {start} {end} {length} {strength}" + (" twisted" if twist < 0 else ""))
            lines += [f"ear {joint} {strength}" for joint, strength in told.ears]
            self.assertEqual(format_web(Web(*told.passed())), "\n".join(lines))

    def test_sixty_digits(self):
        most = 10 ** 60 - 1
        web = Web(["level", "level"], [(0, 1, 1, Frac(most, most - 2))], [(0, Frac(1, most))])
        self.assertEqual(parse_web(format_web(web)), web)
        for strength in (Frac(most + 1), Frac(1, most + 1), Frac(most + 2, 7)):
            for text in (format_web(Web(["level", "level"], [(0, 1, 1, strength)], [])),
                         format_web(Web(["level"], [], [(0, strength)]))):
                self.refused(BadText, {"text": text}, parse_web, text)
        self.assertTrue(format_web(Web(["level"], [], [(0, most + 1)])).endswith(f"ear 0 {most + 1}"))

    def test_most_of_each(self):
        joints = "joints" + " level" * 8
        rods = "".join(f"\nrod {k} {7 - k} 1 1" for k in range(7)) + "\nrod 0 0 5 1"
        ears = "\near 0 1" * 4
        self.assertEqual(parse_web(joints + rods + ears).cells, 24)
        for text in (joints + " level", joints + "\nrod 0 0 1 1" * 9, joints + "\near 0 1" * 5,
                     joints + "\nrod 0 1 12 1\nrod 0 1 1 1", joints + rods[:-len("5 1")] + "6 1"):
            self.refused(BadText, {"text": text}, parse_web, text)


class Wrong(Looks, unittest.TestCase):
    def refuses(self, *texts):
        for text in texts:
            self.refused(BadText, {"text": text}, parse_web, text)

    def test_other_texts(self):
        self.refuses("", "\n", " ", "joint", "Joints", "joints level level\nrods 0 1 1 1", "level", "ear 0 1",
                     "rod 0 0 1 1", "web", "joints level joints", "~" * 2000, "1" * 2000, "joints " + "1" * 1990)

    def test_spaces_and_newlines(self):
        self.refuses(GOOD + "\n", "\n" + GOOD, GOOD + " ", " " + GOOD, GOOD.replace("\n", "\n\n", 1),
                     GOOD.replace("level stream", "level  stream"), GOOD.replace("stream\n", "stream \n"),
                     GOOD.replace("3/4 twisted", "3/4  twisted"), GOOD.replace("twisted", "twisted "),
                     GOOD.replace("ear 1 2", "ear  1 2"), GOOD.replace("ear 1 2", " ear 1 2"),
                     GOOD.replace("3/4", "3 /4"), GOOD.replace("rod 1", "rod1"), GOOD.replace("\n", " "),
                     "joints ", "joints\n", " joints", GOOD.replace(" 0 1 2 ", "\n0 1 2 "))

    def test_orders(self):
        lines = GOOD.split("\n")
        self.refuses("\n".join([lines[1], lines[0], *lines[2:]]), "\n".join([*lines[:2], lines[3], lines[2], lines[4]]),
                     "\n".join([lines[0], *lines[3:], *lines[1:3]]), "\n".join(lines[1:]),
                     "\n".join([lines[0], *lines]), "\n".join([*lines, lines[1]]))

    def test_other_orders_are_other_webs(self):
        lines = GOOD.split("\n")
        self.assertEqual(parse_web("\n".join([lines[0], lines[2], lines[1], lines[4], lines[3]])),
                         Web(["level", "stream"], [(1, 1, 1, 5), (0, 1, 2, Frac(3, 4), -1)], [(0, Frac(1, 2)), (1, 2)]))

    def test_other_forms_of_numbers(self):
        self.refuses(*[GOOD.replace("3/4", other) for other in ("6/8", "+3/4", "03/4", "3/04", "-3/4", "0/4", "3/-4",
                                                                "3/0", "0.75", "3/4/1", "0", "", "three", "3/4,")])
        self.refuses(*[GOOD.replace("rod 1 1 1 5", other) for other in (
            "rod 1 1 1 5/1", "rod +1 1 1 5", "rod 01 1 1 5", "rod 1 -1 1 5", "rod 1 1 0 5", "rod 1 1 13 5",
            "rod 2 1 1 5", "rod 1 2 1 5", "rod 1 1 1 -5", "rod 1 1 1 0", "rod 1/1 1 1 5", "rod 1 1 1/2 5",
            "rod 1/2 1 1 5", "rod 1 1 1", "rod 1 1 1 5 5", "rod 1 1 1 5 Twisted", "rod 1 1 1 5 twisted twisted",
            "rod 1 1 1 5 1", "rod 1 1 1 5 -1", "rod -0 1 1 5", "rod", "rod ", "Rod 1 1 1 5", "rod 1 1 1 5.0",
            "rod x 1 1 5", "rod 1 1 1 x", "rod 1 1 " + "9" * 100 + " 5")])
        self.refuses(*[GOOD.replace("ear 1 2", other) for other in (
            "ear 1", "ear 2 2", "ear -1 2", "ear 1 2 2", "ear 1 4/2", "ear 1 0", "ear 1 -2", "ear 01 2", "ear",
            "Ear 1 2", "eat 1 2", "ear 1/1 2", "ear 1 2 twisted", "ears 1 2", "ear 1/2 2", "rod 1 2", "ear 3/2 2")])
        self.refuses(*[GOOD.replace("joints level", other) for other in (
            "joints Level", "joints ear", "joint level", "joints level,", "level joints", "joints levels")])

    def test_each_single_sign(self):
        """A text with one sign left out or another one put in is refused, or is the text of another web."""
        texts = [GOOD[:k] + GOOD[k + 1:] for k in range(len(GOOD))]
        texts += [GOOD[:k] + sign + GOOD[k:] for k in range(len(GOOD) + 1) for sign in "0 -/+t\n1"]
        for text in texts:
            try:
                web = parse_web(text)
            except BadText as error:
                self.assertEqual(error.text, text)
            else:
                self.assertEqual(format_web(web), text)
                self.assertNotEqual(web, WEB)


if __name__ == "__main__":
    unittest.main()
