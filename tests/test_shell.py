"""A shell: points 17.3 and 17.4."""

import random
import re
import unittest

from onebetween import errors
from onebetween.lone.closures import closure
from onebetween.lone.counts import count_closed, count_rings
from onebetween.lone.middles import between
from onebetween.lone.switches import each_switch
from onebetween.lone.tours import lone_tours, lone_trees
from onebetween.lone.words import word_names
from onebetween.terms.forms import are_equal, are_equal_in_words, form_of
from onebetween.text.shell import Shell
from onebetween.use.keeper import Keeper
from onebetween.webs.making import product, word_web
from onebetween.webs.walks import count_walks
from tests.cases import Case
from tests.some_terms import drawn_term, left_comb, spoilt
from tests.some_webs import LOOP
from tests.wrong_values import ANY_KIND, BENT, FOUR, NINE

WORDS = word_web(3, 2)
NUMBER = "(0|[1-9][0-9]*)"
PLACES = f"(none|{NUMBER}( {NUMBER})*)"
TERM = "[a-z*]+"
# The forms of commands, as the table of the document tells them.
FORMS = [
    "show", "locks", "marks", "moves", f"between {NUMBER} {NUMBER}", f"walks {NUMBER} {NUMBER} at {NUMBER}", f"closed {NUMBER}", f"rings {NUMBER}", "trees", "tours",
    f"closure {PLACES}", "words", f"find {TERM}", f"form {TERM}", f"equal {TERM} {TERM}", f"same {TERM} {TERM}", f"lock {NUMBER} {NUMBER}", f"unlock {NUMBER} {NUMBER}",
    f"mark [a-z] {NUMBER}", "unmark [a-z]", "turn", f"rename {PLACES}", f"switch {NUMBER} {NUMBER} {PLACES}", f"undo {NUMBER}",
]
FORM = re.compile("|".join(f"(?:{form})" for form in FORMS), re.ASCII)
ANSWERS = {
    errors.InvalidNumber: "number", errors.InvalidTerm: "term", errors.UnknownName: "name", errors.InvalidOperation: "operation", errors.TooMany: "many",
    errors.NothingToUndo: "nothing",
}
# Right commands of each form for webs of nine places.
COMMANDS = (
    "show", "locks", "marks", "moves", "between 0 8", "walks 0 8 at 7", "closed 3", "rings 6", "trees", "tours", "closure 0", "closure 8 0 8 3", "closure none", "words",
    "find *ab", "form **ab*bc", "equal *ab *ba", "same *ab *ab", "lock 1 3", "unlock 1 3", "mark a 4", "mark b 0", "unmark a", "turn", "rename 8 7 6 5 4 3 2 1 0",
    "rename none", "switch 1 2 3", "switch 1 2 none", "switch 2 1 6 7", "undo 1", "undo 0",
)


def numbers(words):
    return tuple(int(word) if len(word) < 1000 else 10 ** 250 for word in words if word != "none")


def row(values):
    return " ".join(map(str, values)) or "none"


def yes(told):
    return "yes" if told else "no"


def done(_):
    return "ok"


def answer(keeper, command):
    """Do a command with a keeper, by the functions of the package, and return the answer."""
    if FORM.fullmatch(command) is None:
        return "what"
    name, *words = command.split(" ")
    web = keeper.web
    calls = {
        "show": lambda: "; ".join(web.lines), "locks": lambda: "; ".join(map(row, keeper.locks)) or "none", "trees": lambda: str(lone_trees(web)),
        "marks": lambda: "; ".join(f"{letter} {place}" for letter, place in keeper.marks.items()) or "none", "tours": lambda: str(lone_tours(web)),
        "moves": lambda: "; ".join(f"{u} {v} {row(places)}" for u, v, places in keeper.moves()) or "none", "words": lambda: yes(word_names(web, 2)),
        "between": lambda: str(between(web, *numbers(words))), "walks": lambda: str(count_walks(web, *numbers(words[:2] + words[3:]))),
        "closed": lambda: str(count_closed(web, 2, *numbers(words))), "rings": lambda: str(count_rings(web, 2, *numbers(words))),
        "closure": lambda: row(closure(web, 2, tuple(sorted(set(numbers(words)))))), "find": lambda: str(keeper.find(*words)), "form": lambda: form_of(*words),
        "equal": lambda: yes(are_equal(*words)), "same": lambda: yes(are_equal_in_words(*words)), "lock": lambda: done(keeper.lock(*numbers(words))),
        "unlock": lambda: done(keeper.unlock(*numbers(words))), "mark": lambda: done(keeper.mark(words[0], *numbers(words[1:]))),
        "unmark": lambda: done(keeper.unmark(*words)), "turn": lambda: done(keeper.turn()), "rename": lambda: done(keeper.rename(numbers(words))),
        "switch": lambda: done(keeper.switch(*numbers(words[:2]), numbers(words[2:]))), "undo": lambda: done(keeper.undo(many=numbers(words)[0])),
    }
    try:
        return calls[name]()
    except errors.NoWalk as error:
        return f"tie {error.ends[0]} {error.ends[1]}"
    except tuple(ANSWERS) as error:
        return ANSWERS[error.__class__]


class ShellCase(Case):
    def check(self, shell, keeper, command):
        """Do a command with a shell and with a keeper, and compare both."""
        ahead = shell.keeper()
        found = shell(command)
        self.assertSame(found, answer(keeper, command))
        self.assertTrue(shell.keeper() == keeper)
        self.assertEqual(shell.keeper().changes, keeper.changes)
        self.assertSame(str(shell), f"shell of {keeper}")
        if found != "ok":
            self.assertTrue(shell.keeper() == ahead)
            self.assertEqual(shell.keeper().changes, ahead.changes)


def drawn_command(draw, many):
    """Return a drawn command for a web of so many places, mostly a right one."""
    number = lambda: str(draw.choice((draw.randrange(many), draw.randrange(many), draw.randrange(many + 2), many)))
    term = lambda: draw.choice((drawn_term(draw, "abc", draw.randrange(1, 7)), drawn_term(draw, "abcd", 4), "*a", "ab"))
    places = lambda: draw.choice(("none", number(), number() + " " + number(), " ".join(map(str, sorted(draw.sample(range(many), min(many, 2)))))))
    name = draw.choice(("show", "locks", "marks", "moves", "between", "walks", "closed", "rings", "trees", "tours", "closure", "words", "find", "form", "equal", "same",
                        "lock", "lock", "lock", "unlock", "mark", "mark", "mark", "unmark", "turn", "rename", "switch", "switch", "switch", "undo"))
    if name in ("between", "lock", "unlock"):
        return f"{name} {number()} {number()}"
    if name in ("closed", "rings", "undo"):
        return f"{name} {draw.choice((0, 1, 1, 2, 3, 200, 201))}"
    if name in ("find", "form"):
        return f"{name} {term()}"
    if name in ("equal", "same"):
        return f"{name} {term()} {term()}"
    others = {"walks": f"walks {number()} {number()} at {draw.choice((0, 1, 5, 200, 201))}", "closure": f"closure {places()}", "mark": f"mark {draw.choice('abc')} {number()}",
              "unmark": f"unmark {draw.choice('abc')}", "rename": f"rename {row(draw.sample(range(many), many))}", "switch": f"switch {number()} {number()} {places()}"}
    return others.get(name, name)


class Commands(ShellCase):
    def test_histories(self):
        for seed, web in enumerate((FOUR, NINE, WORDS, LOOP, product(FOUR, FOUR), word_web(4, 2))):
            draw = random.Random(seed)
            keeper, shell = Keeper(web), Shell(Keeper(web))
            for _ in range(250):
                command = drawn_command(draw, len(web))
                moves = list(each_switch(keeper.web))
                if command.startswith("switch") and moves and draw.random() < 0.6:
                    u, v, places = draw.choice(moves)
                    command = f"switch {u} {v} {row(places)}"
                self.check(shell, keeper, command)

    def test_each_command(self):
        keeper, shell = Keeper(WORDS), Shell(Keeper(WORDS))
        for command in COMMANDS + COMMANDS[::-1] + COMMANDS:
            self.check(shell, keeper, command)

    def test_one_sign_changed(self):
        keeper = Keeper(WORDS)
        keeper.mark("a", 1)
        for command in COMMANDS:
            for text in spoilt(command, "0a* \n"):
                # Changes are not kept, so that all texts are done with one keeper.
                with keeper.trial():
                    shell = Shell(keeper)
                    self.assertSame(shell(text), answer(keeper, text))
                    self.assertTrue(shell.keeper() == keeper)

    def test_answers(self):
        shell = Shell(Keeper(WORDS))
        for command, wanted in (
                ("locks", "none"), ("marks", "none"), ("mark y 0", "ok"), ("mark x 3", "ok"), ("marks", "x 3; y 0"), ("lock 1 4", "ok"), ("lock 0 1", "ok"),
                ("locks", "0 1; 1 4"), ("switch 1 2 3", "ok"), ("switch 1 2 4", "tie 1 4"), ("lock 1 4", "operation"), ("lock 1 3", "tie 1 3"), ("lock 9 0", "number"),
                ("find *xz", "name"), ("find *xy", str(between(NINE, 3, 0))), ("find *x", "term"), ("unmark z", "name"), ("unmark y", "ok"), ("undo 9", "nothing"),
                ("undo 6", "ok"), ("marks", "none"), ("undo 1", "nothing"), ("undo 0", "ok"), ("closure 9", "operation"), ("closure 0 9", "operation"), ("closure none", "none"),
                ("closure 4 0 4", "0 1 3 4"), ("rename 1 0", "operation"), ("rename none", "operation"), ("closed 0", "number"), ("closed 201", "number"),
                ("rings 0", "number"), ("walks 0 0 at 0", "1"), ("walks 0 0 at 201", "number"), ("walks 0 1 at 0", "0"), ("between 9 0", "number"), ("switch 1 3 none", "operation"),
                ("switch 9 2 none", "number"), ("words", "yes"), ("turn", "ok"), ("show", "; ".join(WORDS.turned().lines)), ("form *", "term"), ("equal a *", "term"),
                ("same * a", "term"), ("same a a", "yes"), ("equal **ab*ca **db*cd", "no"), ("same **ab*ca **db*cd", "yes")):
            self.assertSame(shell(command), wanted)
        self.assertSame([Shell(Keeper(NINE))("words"), Shell(Keeper(LOOP))("words"), Shell(Keeper(LOOP))("tours")], ["no", "yes", "1"])
        self.assertSame(Shell(Keeper(NINE))("moves"), "; ".join(f"{u} {v} {row(places)}" for u, v, places in each_switch(NINE)))

    def test_long_integers(self):
        keeper, shell = Keeper(WORDS), Shell(Keeper(WORDS))
        shell("mark a 3")
        keeper.mark("a", 3)
        for many in (199, 200, 201, 250, 900, 4300, 4301, 7000):
            number = "9" * many
            for command, wanted in (("between {} 0", "number"), ("between 0 {}", "number"), ("walks {} 0 at 1", "number"), ("walks 0 {} at 1", "number"),
                                    ("walks 0 0 at {}", "number"), ("closed {}", "number"), ("rings {}", "number"), ("closure {}", "operation"), ("closure 0 {} 3", "operation"),
                                    ("lock {} 0", "number"), ("unlock 0 {}", "number"), ("mark a {}", "number"), ("rename {}", "operation"), ("rename 0 1 2 3 4 5 6 7 {}", "operation"),
                                    ("switch {} 1 none", "number"), ("switch 1 2 {}", "operation"), ("switch 1 {} {}", "number"),
                                    ("undo {}", "nothing" if many <= 200 else "number"), ("find {}", "what"), ("show {}", "what"), ("mark {} 1", "what"),
                                    ("between {} x", "what"), ("closure none {}", "what"), ("between 0{} 1", "what")):
                self.assertSame(shell(command.format(number, number)), wanted)
        self.assertTrue(shell.keeper() == keeper)
        self.assertSame(shell("undo " + "1" + "0" * 6999), "number")

    def test_what(self):
        shell = Shell(Keeper(WORDS))
        for command in ("", " ", "Show", "show ", " show", "show\n", "show show", "shows", "sho", "locks 1", "between", "between 0", "between 0 1 2", "between 0  1", "between 00 1",
                        "between 0 01", "between 0 -1", "between 0 +1", "between 0 a", "between 0 1\n", "between  0 1", "walks 0 1 at", "walks 0 1 2", "walks 0 1 At 2", "walks 0 1 at 2 3",
                        "closed", "closed x", "closed 1 2", "rings", "rings 1.0", "closure", "closure ", "closure None", "closure none none", "closure 0 none", "closure 0 ", "closure 0,1",
                        "find", "find ", "find A", "find a b", "find a1", "find (a*b)", "find a\n", "form", "form *a*bC", "equal a", "equal a b c", "equal  a b", "same", "same a ", "lock 0",
                        "mark a", "mark ab 1", "mark A 1", "mark * 1", "mark 1 a", "mark a 1 2", "unmark", "unmark ab", "unmark 1", "unmark *", "turn 1", "turned", "rename", "rename x",
                        "rename 0 1 ", "switch 1 2", "switch 1 2 ", "switch 1 2 3 none", "switch 1 none", "switch 1 2 none none", "undo", "undo x", "undo -1", "undo 1 1", "undo 1_0", "help",
                        "between\t0\t1", "between 0 1;", "show; locks", "\nshow", "show\x00", "at", "N", "x" * 8000, "9" * 8000):
            self.assertSame(shell(command), "what")
            self.assertIs(FORM.fullmatch(command), None)
        for value in ANY_KIND:
            if isinstance(value, str):
                self.assertSame(shell(value), "what")
        self.assertSame(shell.keeper().changes, 0)

    def test_long_terms(self):
        shell = Shell(Keeper(WORDS))
        great = left_comb("ab", 200)
        self.assertSame([shell("form " + great), shell("equal " + great + " " + great), shell("form *" + great + "a"), shell("same a *" + great + "a"), shell("find " + "*" * 8000)],
                        [form_of(great), "yes", "term", "term", "term"])
        self.assertSame(shell("find " + great), "name")
        shell("mark a 1")
        shell("mark b 2")
        keeper = shell.keeper()
        self.assertSame(shell("find " + great), str(keeper.find(great)))

    def test_great_webs(self):
        keeper = Keeper(word_web(16, 2))
        shell = Shell(keeper)
        for command in ("tours", "trees", "walks 0 255 at 200", "closed 200", "rings 200", "between 17 200", "closure 17 200", "words", "show", "moves"):
            self.check(shell, keeper, command)


class Made(ShellCase):
    def test_twins(self):
        keeper = Keeper(FOUR)
        keeper.mark("a", 1)
        shell = Shell(keeper)
        self.assertSame(shell("mark b 2"), "ok")
        self.assertSame([keeper.marks, shell.keeper().marks], [{"a": 1}, {"a": 1, "b": 2}])
        keeper.mark("c", 3)
        other = shell.keeper()
        other.turn()
        self.assertSame([shell.keeper().changes, other.changes, shell("marks")], [2, 3, "a 1; b 2"])
        self.assertIs(shell.keeper().__class__, Keeper)
        # The changes to take back go along.
        self.assertSame([shell("undo 2"), shell("undo 1"), shell("marks")], ["ok", "nothing", "none"])

    def test_wrong(self):
        for value in ANY_KIND + (Shell(Keeper(FOUR)), BENT):
            self.assertRaisesJust(errors.InvalidOperation, Shell, value)
        shell = Shell(Keeper(FOUR))
        for value in ANY_KIND + (shell, Keeper(FOUR), b"show"):
            if not isinstance(value, str):
                self.assertIs(self.assertRaisesJust(errors.ParseError, shell, value).line, None)
        self.assertSame(str(shell), "shell of keeper of 4 places, 0 locks, 0 marks")
        self.assertRaises(TypeError, iter, shell)


if __name__ == "__main__":
    unittest.main()
