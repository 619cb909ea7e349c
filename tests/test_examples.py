"""The examples of the document, as they stand there."""

import doctest
import importlib
import re
import unittest
from pathlib import Path

VALUES = """
FOUR = Web(((0, 1), (2, 3), (0, 1), (2, 3)))
NINE = Web(((0, 1, 2), (4, 5, 6), (3, 7, 8), (0, 1, 2), (3, 4, 5), (6, 7, 8), (0, 1, 2), (3, 4, 5), (6, 7, 8)))
BENT = Web(((0, 1), (2, 3), (0, 2), (1, 3)))
"""

MODULES = (
    "onebetween.webs.webs",
    "onebetween.base.words",
    "onebetween.base.numbers",
    "onebetween.webs.making",
    "onebetween.webs.walks",
    "onebetween.lone.papers",
    "onebetween.lone.middles",
    "onebetween.lone.counts",
    "onebetween.lone.tours",
    "onebetween.lone.closures",
    "onebetween.lone.words",
    "onebetween.lone.switches",
    "onebetween.lone.maps",
    "onebetween.lone.refills",
    "onebetween.terms.terms",
    "onebetween.terms.forms",
    "onebetween.use.keeper",
    "onebetween.text.texts",
    "onebetween.text.shell",
)

# For each stage its examples, and how many they are.
STAGES = {
    1: (2, """
>>> [is_integer(True), is_count(-1), is_letter("ab"), power(3, 4), exponent_of(2, 8), exponent_of(2, 6), exponent_of(1, 1), figures_of(2, 4, 5)]
[False, False, False, 81, 3, None, 0, (0, 1, 0, 1)]
>>> [number_of(3, (1, 0, 2)), number_of(5, ()), divisors(12), [moebius(1), moebius(2), moebius(6), moebius(12)], figures_of(1, 3, 0)]
[11, 0, (1, 2, 3, 4, 6, 12), [1, -1, 1, 0], (0, 0, 0)]
"""),
    2: (3, """
>>> [FOUR.columns, FOUR.loops, FOUR.degree, FOUR.lines[1], (1, 2) in FOUR, FOUR[3], str(FOUR), Web(((1,), ())).degree]
[((0, 2), (0, 2), (1, 3), (1, 3)), (0, 3), 2, '1 to 2 3', True, (2, 3), 'web of 4 places, 8 ties', None]
>>> [FOUR.turned().rows, FOUR.renamed((1, 0, 2, 3)).rows, FOUR.part((0, 1)).lines]
[((0, 2), (0, 2), (1, 3), (1, 3)), ((2, 3), (0, 1), (0, 1), (2, 3)), ('0 to 0 1', '1 to nothing')]
>>> [FOUR.without_tie(0, 1).with_tie(0, 3).rows[0], FOUR.with_row(1, ()) == FOUR, Web.from_lines(("1 to nothing", "0 to 1")).rows]
[(0, 3), False, ((1,), ())]
"""),
    3: (4, """
>>> [word_web(2, 2) == FOUR, word_web(3, 2) == NINE, word_of(2, 3, 6), place_of(3, 2, (1, 2)), all_ties(2).rows]
[True, False, (1, 1, 0), 5, ((0, 1), (0, 1))]
>>> [line_web(all_ties(2)) == FOUR, line_web(FOUR) == word_web(2, 3), line_web(all_ties(2), times=2) == word_web(2, 3), line_ties(BENT)[:4]]
[True, True, True, ((0, 0), (0, 1), (1, 2), (1, 3))]
>>> [product(FOUR, all_ties(1)) == FOUR, product(all_ties(2), BENT)[5], pair_of(all_ties(2), BENT, 5), place_in(all_ties(2), BENT, (1, 1))]
[True, (2, 3, 6, 7), (1, 1), 5]
>>> [both(all_ties(1), all_ties(2)).rows, strides(FOUR, 2) == all_ties(4), strides(BENT, 2)[2], shifted(BENT, (1, 0, 2, 3)).rows[0], is_order(FOUR, (3, 1, 0, 2))]
[((0,), (1, 2), (1, 2)), True, (0, 1, 2), (2, 3), True]
"""),
    4: (4, """
>>> [count_walks(FOUR, 0, 3, 2), count_walks(FOUR, 0, 3, 5), walk_counts(BENT, 2, 2), layers(FOUR, 0, 2), distance(FOUR, 0, 3), farthest(FOUR)]
[1, 8, (2, 1, 1, 0), ((0,), (0, 1), (0, 1, 2, 3)), 2, 2]
>>> [list(each_walk(FOUR, 1, 1, 3)), nth_walk(FOUR, 1, 1, 3, 1), walk_index(FOUR, (1, 3, 2, 1)), is_walk(FOUR, (0,)), is_walk(FOUR, (0, 2))]
[[(1, 2, 0, 1), (1, 3, 2, 1)], (1, 3, 2, 1), 1, True, False]
>>> loose = Web(((1,), (0,), (0,)))
>>> [components(loose), period(loose, 0), period(loose, 2), distance(loose, 0, 2), distance(loose, 2, 2), period(FOUR, 1)]
[((0, 1), (2,)), 2, 0, None, 0, 1]
"""),
    5: (4, """
>>> [is_lone(FOUR, 2), is_lone(FOUR, 4), depth_of(NINE), depth_of(BENT), depth_of(Web(((0,),))), flaws(BENT, 2), flaws(NINE, 2), flaws(NINE, 3)]
[True, False, 2, None, 1, (2, 2), (0, 0), (0, 81)]
>>> [two_walks(FOUR, 2), two_walks(FOUR, 1), two_walks(FOUR, 3) is None, missing_pair(BENT, 2)[0] in (2, 3), missing_pair(NINE, 5)]
[None, None, False, True, None]
>>> [is_lone_paper(BENT, 2, ("two", (2, 0, 0), (2, 2, 0))), is_lone_paper(BENT, 2, ("none", 2, 3, ((2,), (0, 2), (0, 1, 2)))), lone_paper(NINE, 2)[1][8][0]]
[True, True, (8, 6, 0)]
>>> [is_lone_paper(FOUR, 2, ("none", 0, 3, ((0,), (0, 1), (0, 1)))), lone_paper(Web(((0,),)), 3), lone_paper(Web(((), (0, 1))), 1)[0]]
[False, ('lone', (((0, 0, 0, 0),),)), 'none']
"""),
    6: (4, """
>>> [the_walk(FOUR, 2, 1, 2), between(NINE, 3, 5), between(NINE, 1, 1), middle_table(FOUR)[1], steps_to(NINE, 2, 1, 6), steps_to(NINE, 2, 1, 3)]
[(1, 3, 2), 1, 6, (2, 2, 3, 3), 1, 2]
>>> [address(NINE, 2, 1, 3), address(FOUR, 2, 3, 2), place_at(NINE, 2, 1, (2, 1)), web_of_table(middle_table(NINE)) == NINE, is_middle_table(((0, 0), (1, 1)))]
[(0, 0), (1, 0), 1, True, False]
>>> [long_walk_at(FOUR, 2, 0, 0, 3, index) for index in (0, 1)] + [long_walk_index(FOUR, 2, (0, 1, 2, 0))]
[(0, 0, 0, 0), (0, 1, 2, 0), 1]
>>> between(BENT, 0, 0)
raises NotLone
"""),
    7: (2, """
>>> [count_closed(FOUR, 2, 10), count_rings(FOUR, 2, 4), census(NINE, 2, 4), is_ring(FOUR, (1, 2)), is_ring(FOUR, (1, 2, 1, 2)), is_ring(FOUR, (2, 1))]
[1024, 3, {1: 3, 2: 3, 3: 8, 4: 18}, True, False, False]
>>> [list(each_ring(FOUR, 4)), ring_of(FOUR, (2, 1, 2, 1, 2)), rings_at(FOUR, 2, 1, 4), rings_at(FOUR, 2, 1, 1)]
[[(0, 0, 1, 2), (0, 1, 3, 2), (1, 3, 3, 2)], ((1, 2), 2), 3, 0]
"""),
    8: (4, """
>>> [count_trees(FOUR, 0), list(each_tree(FOUR, 0)), is_tree(FOUR, 3, (1, 3, 0, None)), lone_trees(NINE), count_tours(FOUR)]
[2, [(None, 2, 0, 2), (None, 3, 0, 2)], True, 729, 2]
>>> [list(each_tour(FOUR)), is_tour(FOUR, (0, 1, 2, 0, 0, 1, 3, 3, 2, 0)), count_tours(BENT), lone_tours(word_web(2, 5)), count_trees(all_ties(3), 1)]
[[(0, 0, 1, 2, 1, 3, 3, 2, 0), (0, 0, 1, 3, 3, 2, 1, 2, 0)], False, 1, 67108864, 3]
>>> parts = tour_parts(FOUR, (0, 0, 1, 2, 1, 3, 3, 2, 0))
>>> [parts, tour_of(FOUR, parts[0], parts[1]), tour_of(FOUR, (None, 2, 0, 2), ((1,), (3,), (1,), (3,))), any_tour(Web(((0, 1), ())))]
[((None, 3, 0, 2), ((1,), (2,), (1,), (3,))), (0, 0, 1, 2, 1, 3, 3, 2, 0), (0, 0, 1, 3, 3, 2, 1, 2, 0), None]
"""),
    9: (3, """
>>> [closure(NINE, 2, (0,)), closure(NINE, 2, (5,)), closure(NINE, 2, (0, 4)) == tuple(range(9)), is_closed(NINE, 2, (4, 5, 7, 8)), is_closed(NINE, 2, (0, 4))]
[(0,), (4, 5, 7, 8), True, True, False]
>>> [closed_sets(NINE, 2), closed_sets(FOUR, 2)]
[((), (0,), (0, 1, 2, 3, 4, 5, 6, 7, 8), (4,), (4, 5, 7, 8), (8,)), ((), (0,), (0, 1, 2, 3), (3,))]
>>> [part_web(NINE, 2, (4, 5, 7, 8)) == FOUR, len(fewest_generators(NINE, 2)), is_generating(NINE, 2, (3,)), is_generating(FOUR, 2, (0, 3)), len(longest_rise(NINE, 2))]
[True, 1, True, True, 4]
"""),
    10: (4, """
>>> [twins_of(FOUR), twins_of(FOUR, backward=True), classes_at(FOUR, 0, 1), free_classes(FOUR, 0, 1), len(twins_of(NINE)), twins_of(NINE)[0]]
[((0, 1), (2, 3)), ((0, 2), (1, 3)), (((0,), (2,)), ((1,), (3,))), (), 5, (0, 1)]
>>> words = Web(((0, 1, 2), (3, 4, 5), (6, 7, 8), (0, 1, 2), (3, 4, 5), (6, 7, 8), (0, 1, 2), (3, 4, 5), (6, 7, 8)))
>>> [free_classes(words, 1, 2), switched(words, 1, 2, (3,)) == NINE, switched_all(words, ((1, 2, (3,)), (1, 2, (6,)))) == words, is_switch(words, NINE)]
[(((3,), (6,)), ((4,), (7,)), ((5,), (8,))), True, True, True]
>>> [next(iter(each_switch(words))), is_switch(words, FOUR), is_switch(NINE, NINE), switched(words, 1, 2, ()) == words]
[(0, 1, (2,)), False, True, True]
"""),
    11: (5, """
>>> [is_line(NINE, 2), clashing_pair(FOUR, 2), word_names(NINE, 2), is_word_paper(NINE, 2, ("clash", 0, 1, 4)), is_word_paper(NINE, 2, ("clash", 0, 0, 3))]
[False, None, None, True, False]
>>> plain_root(FOUR, 2) == (Web(((0, 1), (0, 1))), ((0, 0), (0, 1), (1, 0), (1, 1)))
True
>>> [is_word_names(FOUR, 2, ((0, 0), (0, 1), (1, 0), (1, 1))), is_word_names(FOUR, 2, ((1, 1), (1, 0), (0, 1), (0, 0))), is_word_names(FOUR, 2, ((0, 0), (1, 0), (0, 1), (1, 1)))]
[True, True, False]
>>> deeper = line_web(NINE)
>>> [is_line(deeper, 3), len(plain_root(deeper, 3)[0]), word_paper(deeper, 3)[:2], is_root(deeper, 3, plain_root(deeper, 3))]
[True, 9, ('clash', 1), True]
"""),
    12: (3, """
>>> [is_map(FOUR, all_ties(2), (0, 0, 1, 1)), is_map(BENT, FOUR, (0, 1, 2, 3)), spread(FOUR, FOUR, {1: 2}), spread(FOUR, FOUR, {1: 0}), count_maps(FOUR, FOUR)]
[True, False, (3, 2, 1, 0), (0, 0, 0, 0), 4]
>>> [list(each_map(FOUR, FOUR)), own_maps(FOUR), image_of(FOUR, FOUR, (3, 3, 3, 3)), behind((3, 2, 1, 0), (0, 1, 2, 3)), count_maps(all_ties(3), all_ties(2))]
[[(0, 0, 0, 0), (0, 1, 2, 3), (3, 2, 1, 0), (3, 3, 3, 3)], ((0, 1, 2, 3), (3, 2, 1, 0)), (3,), (3, 2, 1, 0), 8]
>>> [are_alike(FOUR, FOUR.turned()), are_alike(NINE, word_web(3, 2)), is_likeness(FOUR, FOUR, (3, 2, 1, 0)), folds(word_web(3, 2), FOUR), any_likeness(FOUR, word_web(2, 3))]
[True, False, True, True, None]
"""),
    13: (2, """
>>> [refills(FOUR, 2, (1,)) == (FOUR,), [web.rows for web in refills(FOUR, 2, (0, 1))], count_refills(NINE, 2, (1, 2)), count_refills(BENT, 2, (0,))]
[True, [((0, 1), (2, 3), (0, 1), (2, 3)), ((2, 3), (0, 1), (0, 1), (2, 3))], 8, 0]
>>> [sure_ties(FOUR, 2, (0, 2)), open_ties(FOUR, 2, (0, 2)), sure_ties(FOUR, 2, (0, 1)), len(open_ties(FOUR, 2, (0, 1)))]
[((0, 0), (0, 1), (2, 0), (2, 1)), (), (), 8]
"""),
    14: (4, """
>>> whole = "**xy*yz"
>>> [size_of(whole), letters_of(whole), levels_of(whole), part_at(whole, 1), replaced(whole, 1, "w"), sides_of(whole), mirrored(whole)]
[4, ('x', 'y', 'z'), 2, '*xy', '*w*yz', ('*xy', '*yz'), '**zy*yx']
>>> [substituted("*xy", {"x": "*yz"}), matched(whole, "**aa*a*bc"), matched(whole, "**ab*cb"), count_terms("ab", 3), list(each_term("a", 3))]
['**yzy', {'x': 'a', 'y': 'a', 'z': '*bc'}, None, 16, ['**aaa', '*a*aa']]
>>> [value_of(FOUR, whole, {"x": 1, "y": 2, "z": 3}), value_of(FOUR, "*xy", {"x": 1, "y": 2}), text_of(whole), read_text("(x*y)*(y*z)") == whole, text_of("a")]
[2, 3, '(x*y)*(y*z)', True, 'a']
"""),
    15: (5, """
>>> [steps_down("**ab*bc"), form_of("*a**abc"), form_of("**a*bcc"), steps_down("**ab**bc*cd"), form_chain("*c**ab*bc")]
[((0, 1, 'b'),), '*ab', '*bc', ((4, 1, '**abc'),), ('*c**ab*bc', '*cb')]
>>> [are_equal("**ab*bc", "**cb*ba"), are_equal("**ab*ca", "**db*cd"), are_equal_in_words("**ab*ca", "**db*cd"), word_ends("**ab*ca")]
[True, False, True, (('b', 0), ('c', 1))]
>>> [equality_paper("a", "b"), is_equality_paper("**ab*bc", "**db*bd", ("equal", ("**ab*bc", "b", "**db*bd")))]
[('unequal', ('a',), ('b',)), True]
>>> [parting_values(FOUR, "*ab", "*ba"), holds_in(FOUR, "**ab*ca", "**db*cd"), holds_in(NINE, "**ab*ca", "**db*cd"), list(each_form("a", 3))]
[{'a': 0, 'b': 1}, True, False, ['**aaa', '*a*aa']]
>>> [between_forms("*ab", "*bc"), is_tied_form("a", "*ab"), is_tied_form("*ab", "b"), is_tied_form("a", "b"), is_form("*a**abc")]
['b', True, True, False, False]
"""),
    16: (5, """
>>> keeper = Keeper(Web(((0, 1, 2), (3, 4, 5), (6, 7, 8), (0, 1, 2), (3, 4, 5), (6, 7, 8), (0, 1, 2), (3, 4, 5), (6, 7, 8))))
>>> [keeper.lock(1, 4), keeper.switch(1, 2, (3,)), keeper.web == NINE, (1, 4) in keeper, keeper.mark("x", 3), keeper.mark("y", 5), keeper.find("*xy")]
[None, None, True, True, None, None, 1]
>>> [(1, 2, (4,)) in keeper.moves(), (1, 2, (5,)) in keeper.moves(), keeper.rename((8, 7, 6, 5, 4, 3, 2, 1, 0)), keeper.locks, keeper.marks, str(keeper)]
[False, True, None, ((7, 4),), {'x': 5, 'y': 3}, 'keeper of 9 places, 1 locks, 2 marks']
>>> [keeper.undo(many=4), keeper.web == NINE, keeper.changes, keeper.locks]
[None, False, 1, ((1, 4),)]
>>> keeper.switch(1, 2, (4,))
raises NoWalk
"""),
    17: (5, r"""
>>> [write_web(BENT), read_web("1 to nothing\n0 to 1").rows, write_walk((0, 1, 3)), read_walk("7"), write_paper(("two", (2, 0, 0), (2, 2, 0)))]
['0 to 0 1\n1 to 2 3\n2 to 0 2\n3 to 1 3', ((1,), ()), '0 1 3', (7,), 'two\n2 0 0\n2 2 0']
>>> [read_paper("lone\n0 0"), write_paper(("none", 2, 3, ((2,), (0, 2), (0, 1, 2)))), read_paper(write_paper(lone_paper(NINE, 2))) == lone_paper(NINE, 2)]
[('lone', (((0, 0),),)), 'none 2 3\n2\n0 2\n0 1 2', True]
>>> shell = Shell(Keeper(FOUR))
>>> [shell("between 1 2"), shell("form **ab*bc"), shell("equal *ab *ba"), shell("walks 0 3 at 5"), shell("rings 4"), shell("trees"), shell("closure 1")]
['3', 'b', 'no', '8', '3', '2', '0 1 2 3']
>>> [shell("moves"), shell("words"), shell("mark x 3"), shell("find *xx"), shell("lock 0 3"), shell("undo 2"), shell("between 1 4"), shell("Show"), str(shell)]
['none', 'yes', 'ok', '3', 'tie 0 3', 'nothing', 'number', 'what', 'shell of keeper of 4 places, 0 locks, 1 marks']
"""),
}


def names():
    """Return all names that the examples use."""
    found = {}
    for module in MODULES:
        for name, value in vars(importlib.import_module(module)).items():
            # A name is that of the module that defines it.
            if not name.startswith("_") and getattr(value, "__module__", None) == module:
                found[name] = value
    exec(VALUES, found)
    return found


class Examples(unittest.TestCase):
    def test_stages(self):
        self.assertEqual(list(STAGES), list(range(1, 18)))
        for stage, (many, text) in STAGES.items():
            with self.subTest(stage=stage):
                self.check(text, many)

    def test_readme(self):
        text = (Path(__file__).resolve().parent.parent / "README.md").read_text()
        self.check(text.replace("```", ""), text.count(">>>"))

    def check(self, text, many):
        # The document writes "raises NotLone" where Python writes a traceback.
        text = re.sub(r"^raises (\w+)$", r"Traceback (most recent call last):\n\1", text, flags=re.MULTILINE)
        examples = doctest.DocTestParser().get_doctest(text, names(), "example", None, 0)
        self.assertEqual(len(examples.examples), many)
        told = []
        runner = doctest.DocTestRunner(verbose=False, optionflags=doctest.IGNORE_EXCEPTION_DETAIL)
        runner.run(examples, out=told.append)
        self.assertEqual(runner.failures, 0, "".join(told))


if __name__ == "__main__":
    unittest.main()
