"""[A3]: names of arguments, kinds of what is returned, equal answers, and that nothing passed is changed."""

import copy
import importlib
import inspect
import random
import unittest

from flatbonds.blocks import is_block
from flatbonds.boards import Board
from flatbonds.errors import WebError
from flatbonds.layings import lay, over
from flatbonds.leads import lead
from flatbonds.opposites import by_basis, flat_basis
from flatbonds.papers import outer_paper, unwoven
from flatbonds.rings import rings
from flatbonds.shells import Shell
from flatbonds.texts import web_text
from flatbonds.twists import form_way
from flatbonds.webs import darts_at
from samples import (
    BARE, H, LINE, LOOP, ODD_VALUES, P, R, W, bundle, far_webs, random_picks, ring, small_blocks, small_webs
)

INTERFACE = {
    "webs": {"web_error": ["value"], "is_pick": ["web", "value"], "spots_of": ["web", "pick"],
             "darts_at": ["web", "spot"], "pieces": ["web"], "taken_out": ["web", "pick"], "web_of": ["web", "pick"],
             "drawn_in": ["web", "tie"]},
    "texts": {"web_text": ["web"], "parse_web": ["value"]},
    "rings": {"is_even": ["web", "pick"], "is_cut": ["web", "pick"], "is_ring": ["web", "pick"],
              "is_bond": ["web", "pick"], "rings": ["web"], "bonds": ["web"], "sum_of": ["picks"],
              "first_forest": ["web"], "ring_with": ["web", "tie"], "bond_with": ["web", "tie"],
              "summands": ["picks", "pick"], "parted": ["web", "pick"]},
    "blocks": {"blocks": ["web"], "cut_spots": ["web"], "is_block": ["web"], "block_line": ["web", "tie", "last"]},
    "roads": {"roads_apart": ["web", "spot", "last"], "stop": ["web", "spot", "last"],
              "roads_hold": ["web", "spot", "last", "value"], "stop_holds": ["web", "spot", "last", "value"],
              "ears": ["web", "tie"], "ears_hold": ["web", "tie", "value"], "rising": ["web", "tie"],
              "rising_holds": ["web", "tie", "value"]},
    "trees": {"is_parting": ["web", "pick"], "poles": ["web", "pick"], "joins": ["web"], "tree": ["web"],
              "part_web": ["web", "number"], "is_firm": ["web"], "tree_holds": ["web", "value"],
              "crossing": ["web", "pick"], "meeting": ["web", "tie", "last"]},
    "layings": {"laying_error": ["web", "value"], "faces": ["web", "laying"], "is_flat": ["web", "laying"],
                "over": ["web", "laying"], "lay": ["web"], "how_many": ["web"], "all_layings": ["web"],
                "open_pairs": ["web"], "filled": ["web"], "thinned": ["web", "laying", "pick"],
                "put_in": ["web", "laying", "tie"], "sides": ["web", "laying", "tie"],
                "at_face": ["web", "laying", "spots"]},
    "papers": {"paper_holds": ["web", "value"], "forbidden": ["web"], "bare": ["web"], "fewest_out": ["web"],
               "is_outer": ["web"], "outer_paper": ["web"], "is_two_road": ["web"], "two_road_paper": ["web"],
               "unwoven": ["web"], "unwoven_holds": ["web", "value"]},
    "moves": {"moved": ["web", "laying", "value"], "is_loose": ["web", "laying", "pick"],
              "back": ["web", "laying", "move"], "way": ["web", "laying", "last"],
              "way_holds": ["web", "laying", "last", "value"], "moves_between": ["web", "laying", "last"]},
    "twists": {"changed": ["web", "value"], "ring_form": ["web"], "form_way": ["web"],
               "form_way_holds": ["web", "value"], "same_rings": ["web", "other"], "rings_part": ["web", "other"],
               "as_ties": ["web", "names"], "ring_of_web": ["count", "picks"], "least_spots": ["web"]},
    "opposites": {"opposite": ["web", "laying"], "is_opposite": ["web", "other"], "flat_basis": ["web"],
                  "basis_holds": ["web", "value"], "by_basis": ["web", "picks"], "by_opposite": ["web", "other"]},
    "leads": {"lead_holds": ["web", "other", "value"], "lead": ["web", "other"], "own_leads": ["web"],
              "laying_lead": ["web", "laying", "other", "last"], "laying_code": ["web", "laying"],
              "unlike_layings": ["web"]},
}

# The classes, their methods and properties, and the arguments of these behind the object itself.
CLASSES = {
    ("boards", "Board"): {
        "__init__": ["value"], "web": None, "laying": None, "version": None, "__len__": [], "__getitem__": ["at"],
        "__contains__": ["x"], "__iter__": [], "__str__": [], "__eq__": ["other"], "__ne__": ["other"], "count": [],
        "paper": [], "blocks": [], "spot": [], "tie": ["spot", "other"], "cut": ["index"], "draw": ["index"],
        "change": ["value"], "batch": ["edits"], "undo": [], "redo": [], "at": ["version"], "news": [], "copy": [],
        "attempt": ["work"]},
    ("boards", "FlatBoard"): {"__init__": ["value"]},
    ("shells", "Shell"): {"__init__": [], "say": ["line"]},
}


# Values that hold, or can be done, now and then.
GOOD_VALUES = {
    "laying_error": lambda web, named: any_laying(web), "paper_holds": lambda web, named: outer_paper(web),
    "unwoven_holds": lambda web, named: unwoven(web), "moved": lambda web, named: ("over",),
    "way_holds": lambda web, named: (("over",),), "form_way_holds": lambda web, named: form_way(web),
    "changed": lambda web, named: ("names", tuple(range(web[0]))[::-1]),
    "basis_holds": lambda web, named: flat_basis(web), "lead_holds": lambda web, named: lead(web, named["other"]),
}


def any_laying(web):
    """A flat laying, or any one of a web that has no flat one."""
    found = lay(web)
    return tuple(darts_at(web, spot) for spot in range(web[0])) if found is None else found


def function(module, name):
    return getattr(importlib.import_module("flatbonds." + module), name)


def only_plain(value):
    """Whether value is made of tuples, integers, strings, True, False and None alone."""
    if type(value) is tuple:
        return all(only_plain(item) for item in value)
    return value is None or type(value) in (int, str, bool)


def answer(call, named):
    """What the call returns, or the error that it raises with what it keeps."""
    try:
        return call(**named)
    except WebError as error:
        return (type(error).__name__, tuple(sorted(vars(error).items())))


def calls_for(web, rng):
    """Pairs of each function and arguments by name that suit the web."""
    tie = rng.randrange(len(web[1])) if web[1] else None
    row = tuple(range(0, len(web[1]), 2))
    picks = tuple(random_picks(rng, web, 3))
    worths = {"web": web, "pick": picks[-1], "picks": picks, "spot": rng.randrange(web[0]), "number": rng.randrange(3),
              "tie": tie, "value": (row, row), "laying": any_laying(web), "move": ("over",),
              "spots": tuple(range(0, web[0], 3)), "names": tuple(range(len(web[1])))[::-1],
              "other": (web[0], web[1][::-1])}
    basis = flat_basis(web)
    for module, names in INTERFACE.items():
        for name, words in names.items():
            if tie is None and "tie" in words:
                continue
            named = {word: worths[word] for word in words if word in worths}
            if name == "laying_lead":
                named["last"] = any_laying(worths["other"])
            elif "last" in words:
                limit = web[0] if "spot" in words else len(web[1])
                named["last"] = over(web, any_laying(web)) if module == "moves" else rng.randrange(limit)
            if name == "parse_web":
                named["value"] = web_text(web)
            if name == "by_basis":
                named["picks"] = basis or ()
            if name == "by_opposite" and basis is not None:
                named["other"] = by_basis(web, basis)
            if name == "put_in":
                named["tie"] = (0, web[0] - 1)
            if name == "ring_of_web":
                count = min(len(web[1]), 6)
                named.update(count=count, picks=rings((web[0], web[1][:count])))
            if name in GOOD_VALUES and rng.random() < 0.7:
                named["value"] = GOOD_VALUES[name](web, named)
            yield function(module, name), named


class InterfaceTest(unittest.TestCase):
    def test_names_and_arguments(self):
        for module, names in INTERFACE.items():
            for name, words in names.items():
                call = function(module, name)
                self.assertEqual(list(inspect.signature(call).parameters), words, name)
                self.assertEqual(call.__module__, "flatbonds." + module)

    def test_classes(self):
        for (module, name), words in CLASSES.items():
            made = function(module, name)
            self.assertEqual(made.__module__, "flatbonds." + module)
            for method, arguments in words.items():
                held = vars(made)[method]
                if arguments is None:
                    self.assertIsInstance(held, property)
                    self.assertIsNone(held.fset)
                else:
                    self.assertEqual(list(inspect.signature(held).parameters)[1:], arguments, method)


class AnswersTest(unittest.TestCase):
    def test_kinds_places_names_and_equal_answers(self):
        rng = random.Random(70)
        webs = small_webs(70, 30) + small_blocks(70, 20) + list(far_webs().values())
        for web in webs:
            for call, named in calls_for(web, rng):
                kept = copy.deepcopy(named)
                told = answer(call, named)
                self.assertTrue(only_plain(told), (call.__name__, told))
                self.assertEqual(told, answer(call, copy.deepcopy(named)))
                self.assertEqual(named, kept)
                words = list(inspect.signature(call).parameters)
                by_place = answer(lambda: call(*[named[word] for word in words]), {})
                self.assertEqual(told, by_place)

    def test_values_are_never_changed(self):
        takers = [(function(module, name), words) for module, names in INTERFACE.items()
                  for name, words in names.items() if "value" in words]
        self.assertEqual(len(takers), 17)
        for web in (W, H, R, LINE, bundle(3), ring(5)):
            board = Board(web)
            boards = [board, Shell(), (board,), (web[0], board), (board, ()), ((board, 0),), ("flip", board),
                      ("names", (board,) * web[0]), ("glue", 0, board), (("ring", board),), (((board,),),), [board]]
            for value in ODD_VALUES + boards + [[web], {"web": [web]}, (list(web), [1]), ([(0, 1)], [2])]:
                for call, words in takers:
                    kept = value if value is boards[1] else copy.deepcopy(value)
                    named = {"web": web, "spot": 0, "last": 1, "tie": 0, "value": value, "laying": any_laying(web),
                             "other": web}
                    if "laying" in words:
                        named["last"] = any_laying(web)
                    told = answer(call, {word: named[word] for word in words})
                    self.assertTrue(only_plain(told))
                    self.assertEqual(value, kept)

    def test_nothing_is_what_no_holds_takes(self):
        for name in ("roads_hold", "stop_holds"):
            self.assertIs(function("roads", name)(W, 0, 1, None), False)
        for name in ("ears_hold", "rising_holds"):
            for web in (W, P, LOOP, LINE):
                self.assertIs(function("roads", name)(web, 0, None), False)
        for web in (W, LOOP, LINE):
            self.assertTrue(is_block(web))
            self.assertIs(function("trees", "tree_holds")(web, None), False)
        for web in (W, P, LOOP, LINE, BARE, (3, ())):
            for module, name in (("papers", "paper_holds"), ("papers", "unwoven_holds"), ("twists", "form_way_holds"),
                                 ("opposites", "basis_holds")):
                self.assertIs(function(module, name)(web, None), False)
            self.assertIs(function("leads", "lead_holds")(web, web, None), False)
        for web in (W, P, LOOP, LINE):
            self.assertIs(function("moves", "way_holds")(web, lay(web), lay(web), None), False)

    def test_deep_and_long_values(self):
        deep = ()
        for _ in range(19):
            deep = (deep,)
        long = tuple(range(3000))
        for value in (deep, long, [deep], (long[:1500], long[:1400]), tuple((at,) for at in range(1499)), "x" * 3000,
                      "\n" * 3000, {at: at for at in range(1400)}):
            for name in ("roads_hold", "stop_holds"):
                self.assertIs(function("roads", name)(W, 0, 1, value), False)
            for name in ("ears_hold", "rising_holds"):
                self.assertIs(function("roads", name)(W, 0, value), False)
            self.assertIs(function("trees", "tree_holds")(W, value), False)
            self.assertIs(function("webs", "is_pick")(W, value), False)
            self.assertNotEqual(function("webs", "web_error")(value), None)
            self.assertEqual(function("layings", "laying_error")(W, value), (None, "laying"))
            for module, name in (("papers", "paper_holds"), ("papers", "unwoven_holds"), ("twists", "form_way_holds"),
                                 ("opposites", "basis_holds")):
                self.assertIs(function(module, name)(W, value), False)
            self.assertIs(function("leads", "lead_holds")(W, W, value), False)
            self.assertIs(function("moves", "way_holds")(W, lay(W), lay(W), value), False)
            for call, named in ((function("moves", "moved"), {"web": W, "laying": lay(W)}),
                                (function("twists", "changed"), {"web": W})):
                for worth in (value, ("flip", value), ("twist", value), ("names", value)):
                    self.assertIn(answer(call, {**named, "value": worth}), [("BadMove", ()), ("BadChange", ())])


if __name__ == "__main__":
    unittest.main()
