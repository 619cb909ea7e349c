"""Texts: points 17.1 and 17.2."""

import itertools
import random
import unittest

from onebetween.errors import InvalidPaper, InvalidWalk, InvalidWeb, ParseError
from onebetween.lone.papers import lone_paper
from onebetween.text.texts import read_paper, read_walk, read_web, write_paper, write_walk, write_web
from onebetween.webs.making import all_ties, product, word_web
from onebetween.webs.webs import Web
from tests.cases import Case
from tests.some_terms import spoilt
from tests.some_webs import BARE, DEEP, DOT, FULL, LOOP, small_webs
from tests.wrong_values import ANY_KIND, BENT, FOUR, LONG, NINE, web_rule, without

NO_STRINGS = tuple(value for value in ANY_KIND if not isinstance(value, str))
NUMBERS = {str(number): number for number in range(256)}


class TextCase(Case):
    def not_read(self, call, text, line):
        raised = self.assertRaisesJust(ParseError, call, text)
        self.assertSame(raised.line, line)


def places_by_force(text):
    """Return the places of a text, None if a word of it is none."""
    words = text.split(" ")
    return tuple(NUMBERS[word] for word in words) if all(word in NUMBERS for word in words) else None


def paper_by_force(text):
    """Return the paper of a text, or the index of the line that is told."""
    first, *lines = text.split("\n")
    words = first.split(" ")
    if first in ("lone", "two"):
        walks = []
        for index, line in enumerate(lines):
            walk = places_by_force(line)
            if walk is None or not 2 <= len(walk) <= 9 or walks and len(walk) != len(walks[0]):
                return index + 1
            walks.append(walk)
        if first == "two":
            return ("two", *walks) if len(walks) == 2 else len(lines) + 1
        sides = [many for many in range(1, 65) if many * many == len(walks)]
        return ("lone", tuple(tuple(walks[at:at + many]) for many in sides for at in range(0, many * many, many))) if sides else len(lines) + 1
    if words[0] != "none" or len(words) != 3 or any(word not in NUMBERS for word in words[1:]):
        return 0
    layers = []
    for index, line in enumerate(lines):
        layer = () if line == "nothing" else places_by_force(line)
        if layer is None or list(layer) != sorted(set(layer)) or index > 8:
            return index + 1
        layers.append(layer)
    return ("none", NUMBERS[words[1]], NUMBERS[words[2]], tuple(layers)) if len(layers) > 1 else len(lines) + 1


class Webs(TextCase):
    def test_there_and_back(self):
        for web in small_webs()[::7] + [LOOP, DOT, BARE, DEEP, FULL, word_web(16, 2), all_ties(100)]:
            text = write_web(web)
            lines = [f"{place} to " + (" ".join(map(str, row)) or "nothing") for place, row in enumerate(web.rows)]
            self.assertSame(text, "\n".join(lines))
            self.assertTrue(read_web(text) == web)
            self.assertIs(read_web(text).__class__, Web)
            draw = random.Random(1)
            draw.shuffle(lines)
            self.assertTrue(read_web("\n".join(lines)) == web)

    def test_errors(self):
        self.assertRefusals(write_web, (FOUR,), web_rule())
        for value in NO_STRINGS:
            self.not_read(read_web, value, None)
        for text, line in (("", 0), ("\n", 0), ("0 to 0\n", 1), ("\n0 to 0", 0), ("0 to 0\n0 to 0", 1), ("0 to 0\n1 to  0", 1), ("0 to 0 ", 0), (" 0 to 0", 0),
                           ("0 to 00", 0), ("00 to 0", 0), ("0 to 1 0", 0), ("0 to 0 0", 0), ("0 to", 0), ("0 to ", 0), ("0 to nothing ", 0), ("0 to 0\n\n1 to 0", 1),
                           ("0 to 0\r\n1 to 0", 0), ("0 to -1", 0), ("0 To 0", 0), ("0 to 0; 1 to 0", 0), ("1 to 0\n0 to 1\n1 to 1\nx", 2), ("1 to 0\n0 to 1\nx\n1 to 1", 2)):
            self.not_read(read_web, text, line)
        for text in ("1 to nothing", "0 to 1", "0 to 0\n2 to 0", "0 to 256", "\n".join(f"{place} to 0" for place in range(257))):
            self.assertRaisesJust(InvalidWeb, read_web, text)

    def test_one_sign_changed(self):
        for web in (FOUR, Web(((1,), ()))):
            text = write_web(web)
            for value in spoilt(text, "01 \nnt"):
                lines = tuple(value.split("\n"))
                try:
                    wanted = Web.from_lines(lines)
                except ParseError as error:
                    self.not_read(read_web, value, error.line)
                except InvalidWeb:
                    self.assertRaisesJust(InvalidWeb, read_web, value)
                else:
                    self.assertTrue(read_web(value) == wanted)
                    self.assertEqual(sorted(write_web(wanted).split("\n")), sorted(lines))


class Walks(TextCase):
    def test_there_and_back(self):
        for walk in ((0,), (255,), (0, 255), (1, 1, 1), tuple(range(201)), (255,) * 201, (10, 200, 30)):
            text = write_walk(walk)
            self.assertSame(text, " ".join(map(str, walk)))
            self.assertSame(read_walk(text), walk)

    def test_errors(self):
        right = ((0,), (1, 2), (0, 1, 2))
        for value in without(ANY_KIND, *right) + ((), (256,), (0, 256), (0, -1), (0, True), (False,), (0, LONG), (0, "1"), [0], (0,) * 202, (0, None), ((0,),), "0 1"):
            self.assertRaisesJust(InvalidWalk, write_walk, value)
        for value in without(ANY_KIND, "0", "1") + ("", " ", "00", "01", "0 ", " 0", "0  1", "0\n", "0\n1", "256", "0 256", "1000", "-1", "+1", "1.0", "0,1", "nothing", "a",
                                                    " ".join(["0"] * 202), "0 " * 201, "9" * 300, "0 1 x", "0\t1", "1_0"):
            self.not_read(read_walk, value, None)
        self.assertSame(read_walk(" ".join(["7"] * 201)), (7,) * 201)

    def test_one_sign_changed(self):
        for text in ("0 1 3", "7", "25 5 0", "255"):
            for value in spoilt(text, "0125 \nx"):
                wanted = places_by_force(value)
                if wanted is None:
                    self.not_read(read_walk, value, None)
                else:
                    self.assertSame(read_walk(value), wanted)


WALK = (3, 200)
PAPERS = (
    ("lone", (((0, 0),),)), ("lone", (((0, 1), (5, 5)), ((255, 0), WALK))), ("lone", (((0,) * 9,),)), ("lone", ((WALK,) * 64,) * 64), ("lone", (((1, 2, 3),) * 3,) * 3),
    ("two", WALK, WALK), ("two", (0,) * 9, (255,) * 9), ("two", (1, 2, 3), (3, 2, 1)),
    ("none", 0, 0, ((), ())), ("none", 255, 254, ((0,),) * 9), ("none", 2, 3, ((2,), (0, 2), (0, 1, 2))), ("none", 7, 0, (tuple(range(256)), ())),
)
NO_PAPERS = (
    (), ("lone",), ("lone", ()), ("lone", ((),)), ("lone", ((WALK,),) * 2), ("lone", ((WALK, WALK),)), ("lone", ((WALK, WALK), (WALK,))), ("lone", [(WALK,)]),
    ("lone", ([WALK],)), ("lone", ([3, 200],)), ("lone", (WALK,)), ("lone", WALK), ("lone", ((WALK,),), ()), ("lone", (((0,),),)), ("lone", (((0,) * 10,),)),
    ("lone", (((),),)), ("lone", (((0, 256),),)), ("lone", (((0, -1),),)), ("lone", (((0, True),),)), ("lone", (((0, LONG),),)), ("lone", (((0, "1"),),)),
    ("lone", ((WALK, WALK), (WALK, (1, 2, 3)))), ("lone", ((WALK, (1, 2, 3)), (WALK, WALK))), ("lone", ((WALK,) * 65,) * 65), ("Lone", ((WALK,),)), ["lone", ((WALK,),)],
    ("two", WALK), ("two", WALK, WALK, WALK), ("two", (WALK, WALK)), ("two", WALK, (1, 2, 3)), ("two", (0,), (0,)), ("two", (0,) * 10, (0,) * 10), ("two", (), ()),
    ("two", [3, 200], WALK), ("two", WALK, [3, 200]), ("two", WALK, (0, 256)), ("two", WALK, (False, 1)), ("two", WALK, None), ("lone", WALK, WALK), (2, WALK, WALK),
    ("none", 0, 0, ()), ("none", 0, 0, ((),)), ("none", 0, 0, ((),) * 10), ("none", 256, 0, ((), ())), ("none", 0, 256, ((), ())), ("none", -1, 0, ((), ())),
    ("none", True, 0, ((), ())), ("none", 0, None, ((), ())), ("none", 0, 0, ((), (1, 0))), ("none", 0, 0, ((), (1, 1))), ("none", 0, 0, ((), (256,))),
    ("none", 0, 0, ((), (True,))), ("none", 0, 0, ((), [0])), ("none", 0, 0, [(), ()]), ("none", 0, 0), ("none", 0, ((), ())), ("none", 0, 0, ((), ()), ()),
    ("none", (0, 0), ((), ())), ("none", LONG, 0, ((), ())), (None, 0, 0, ((), ())), ("two", 0, 0, ((), ())), (FOUR, NINE), ("words", ((0,),)),
)


def text_by_force(paper):
    row = lambda places: " ".join(map(str, places)) or "nothing"
    if paper[0] == "lone":
        return "\n".join(["lone"] + [row(walk) for walks in paper[1] for walk in walks])
    if paper[0] == "two":
        return "\n".join(["two", row(paper[1]), row(paper[2])])
    return "\n".join([f"none {paper[1]} {paper[2]}"] + [row(layer) for layer in paper[3]])


class Papers(TextCase):
    def test_there_and_back(self):
        papers = PAPERS + tuple(lone_paper(web, depth) for web, depth in ((FOUR, 2), (NINE, 2), (BENT, 2), (DEEP, 3), (LOOP, 8), (DOT, 1), (word_web(8, 2), 2),
                                                                        (BARE, 8), (FOUR, 3), (all_ties(64), 1), (product(FOUR, NINE), 2)))
        for paper in papers:
            text = write_paper(paper)
            self.assertSame(text, text_by_force(paper))
            self.assertSame(read_paper(text), paper)

    def test_no_papers(self):
        for value in ANY_KIND + NO_PAPERS:
            self.assertRaisesJust(InvalidPaper, write_paper, value)

    def test_other_kinds_of_texts(self):
        for value in NO_STRINGS:
            self.not_read(read_paper, value, None)
        for value in ANY_KIND:
            if isinstance(value, str):
                self.not_read(read_paper, value, 0)

    def test_lines(self):
        for text, line in (("", 0), ("\n", 0), ("lone", 1), ("lone\n", 1), ("lone ", 0), (" lone", 0), ("Lone\n0 0", 0), ("\nlone\n0 0", 0), ("lone 0\n0 0", 0),
                           ("lone\n0 0\n", 2), ("lone\n0 0\n0 0", 3), ("lone\n0 0\n0 0\n0 0", 4), ("lone\n0 0\n0 0\n0 0\n0 0\n0 0", 6), ("lone\n0 0\n0 0 0\n0 0\n0 0", 2),
                           ("lone\n0", 1), ("lone\n" + "0 " * 9 + "0", 1), ("lone\n0 256", 1), ("lone\n0 00", 1), ("lone\n0  0", 1), ("lone\n0 0 ", 1), ("lone\nnothing", 1),
                           ("lone" + "\n0 0" * 4097, 4098), ("lone" + "\n0 0" * 4225, 4226), ("lone" + "\n0 0" * 4097 + "\nx", 4098), ("lone" + "\n0 0" * 4095, 4096),
                           ("two", 1), ("two\n0 0", 2), ("two\n0 0\n0 0\n0 0", 4), ("two\n0 0\n0 0 0", 2), ("two\n0 0\nx", 2), ("two\nx\ny", 1), ("two\n0 0\n0 0\n", 3),
                           ("two\n0\n0", 1), ("two\n0 0\n0 256", 2), ("two\n0 0\n0 0\n0 0\n0 0 0", 4), ("two\n0 0\n0 0\n0 0\n0 0", 5), ("two \n0 0\n0 0", 0),
                           ("none", 0), ("none 0", 0), ("none 0 0 0", 0), ("none 0 256", 0), ("none 0  0", 0), ("none 0 0 ", 0), ("none 00 0\n0\n0", 0), ("none  0 0\n0\n0", 0),
                           ("none 0 0", 1), ("none 0 0\n0", 2), ("none 0 0\n", 1), ("none 0 0\n0\n", 2), ("none 0 0\n0\n1 0", 2), ("none 0 0\n0 0\n0", 1),
                           ("none 0 0\nnothing\nNothing", 2), ("none 0 0" + "\n0" * 10, 10), ("none 0 0" + "\n0" * 9 + "\nx", 10), ("none 0 0" + "\n0" * 8 + "\nx\n0", 9),
                           ("none 0 0\n0\n256", 2), ("none 0 0\nnothing 0\n0", 1), ("None 0 0\n0\n0", 0), ("nonex0 0\n0\n0", 0), ("none-0 0\n0\n0", 0)):
            with self.subTest(text=text[:60]):
                self.assertSame(paper_by_force(text), line)
                self.not_read(read_paper, text, line)

    def test_one_sign_changed(self):
        for paper in PAPERS[:3] + PAPERS[5:11]:
            text = text_by_force(paper)
            for value in spoilt(text[:80], "0125 \nxno"):
                wanted = paper_by_force(value)
                if isinstance(wanted, int):
                    self.not_read(read_paper, value, wanted)
                else:
                    self.assertSame(read_paper(value), wanted)

    def test_lines_left_out_and_put_in(self):
        for paper in PAPERS[:3] + PAPERS[4:11] + (lone_paper(FOUR, 2),):
            lines = text_by_force(paper).split("\n")
            for at, line in itertools.product(range(len(lines) + 1), ("0 0", "nothing", "", "lone", "two", "none 0 0", "0", "1 0", "255 255 255", "0 0 0 0 0 0 0 0 0")):
                for changed in (lines[:at] + lines[at + 1:], lines[:at] + [line] + lines[at:], lines[:at] + [line] + lines[at + 1:]):
                    text = "\n".join(changed)
                    wanted = paper_by_force(text)
                    if isinstance(wanted, int):
                        self.not_read(read_paper, text, wanted)
                    else:
                        self.assertSame(read_paper(text), wanted)


if __name__ == "__main__":
    unittest.main()
