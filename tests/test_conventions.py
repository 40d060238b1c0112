import copy
import importlib
import inspect
import unittest

from tests.samples import BRIDGE, EVEN, KLEIN, TURNING

WALK = (0, 5, ((0, 1, 1), (0, -1, 4)))
GOING = (0, 0, ((0, 1, 1), (0, 1, 0)))
OTHER = (0, 0, ((0, 1, 0), (0, 1, 1)))
BASE = (0, ())
PLACE = (0, ((1, 0, 1),))
GIVEN = ((0, 2, ()), GOING)
READER = (((0, 2),), ((0, 0, 1, 0, 0, 1),))
INDEXED = ((0, 2, ()), (0, 0, ((0, 1, 0),)), (0, 1, ((0, 1, 1),)))
TABLE = (((1, 0),), ((1, 0),))
CHANGES = (("turn over", 1), ("reverse", 0), ("draw out", 0, 2, ((0, 1),)))
PLAN = ((0, (("cross", 0, 1),)), (0, (("line", 0, -1, 2),)))

# Each function of the interface with arguments that it takes.
CALLS = {
    "webs": {
        "is_web": (TURNING,),
        "piece_of": (BRIDGE, 1),
        "pieces_of": (BRIDGE,),
        "ends_of": (BRIDGE, 0, -1),
        "ways_out": (TURNING, 0),
    },
    "walks": {
        "is_walk": (TURNING, WALK),
        "end_room": (TURNING, WALK),
        "is_closed": (TURNING, WALK),
        "joined_walk": (TURNING, WALK, GOING),
        "opposite_walk": (TURNING, WALK),
        "power_walk": (TURNING, WALK, -3),
        "moved_walk": (TURNING, WALK, (("carry", 1, 2), ("put", 0, 0, 1, 3))),
    },
    "plainwalks": {
        "is_plain": (TURNING, WALK),
        "plain_walk": (TURNING, WALK),
        "plain_moves": (TURNING, WALK),
        "are_equal": (TURNING, WALK, GOING),
        "reach_of": (TURNING, WALK),
    },
    "papers": {
        "equality_paper": (TURNING, WALK, GOING),
        "is_equality_paper": (TURNING, WALK, WALK, ("equal", ())),
    },
    "places": {
        "is_place": (TURNING, PLACE),
        "place_room": (TURNING, PLACE),
        "place_of": (TURNING, WALK),
        "walk_to": (TURNING, PLACE),
        "led_place": (TURNING, WALK, PLACE),
        "neighbours": (TURNING, PLACE),
        "place_counts": (TURNING, 0, 5),
    },
    "distances": {
        "distance_of": (TURNING, PLACE, BASE),
        "way_between": (TURNING, PLACE, BASE),
        "middle_of": (TURNING, PLACE, BASE, PLACE),
    },
    "keeping": {
        "keeps_place": (TURNING, WALK, PLACE),
        "kept_turns": (TURNING, (0, 6, ()), PLACE),
        "keeping_walk": (TURNING, PLACE, 5),
        "keeping_number": (TURNING, PLACE, BASE),
        "kept_counts": (TURNING, 0, 4, 3),
        "nearest_kept": (TURNING, WALK),
        "line_places": (TURNING, GOING),
    },
    "turned": {
        "is_turned": (TURNING, WALK),
        "trip_and_lap": (TURNING, WALK),
        "walk_length": (TURNING, WALK),
        "goes_on": (TURNING, WALK),
        "trip_steps": (TURNING, WALK),
        "rotated_walk": (TURNING, WALK, 1),
        "pace_of": (TURNING, WALK),
    },
    "openings": {
        "opening_of": (EVEN, WALK, 1),
        "opening_answers": (EVEN, GOING, OTHER),
        "told_carrier": (EVEN, GOING, OTHER),
    },
    "plans": {
        "is_plan": (TURNING, PLAN),
        "plan_tolls": (TURNING, PLAN),
        "plan_crossings": (TURNING, PLAN),
    },
    "turnorder": {
        "primes_of": (BRIDGE, 1),
        "turn_parts": (BRIDGE, 1, -60),
        "comes_before": (BRIDGE, (0, 3), (1, 5)),
    },
    "turnrules": {
        "told_rules": (BRIDGE, 0),
        "least_turn": (BRIDGE, 1, 9),
        "are_complete": (BRIDGE, 0, ((1, 3, 0, 2),)),
        "brought_down": (BRIDGE, ((1, 3, 0, 2),), 1, 9),
    },
    "turnclasses": {
        "turn_class": (BRIDGE, 1, 9),
    },
    "carryings": {
        "are_carried": (EVEN, GOING, OTHER),
        "carrying_paper": (TURNING, (0, 9, ()), (0, 4, ())),
        "shows_carrying": (EVEN, GOING, OTHER, True, ("on", 1, 0)),
    },
    "shares": {
        "share_of": (TURNING, WALK),
        "toll_of": (TURNING, WALK),
        "passed_turns": (TURNING, WALK, 6),
    },
    "sources": {
        "first_way": (BRIDGE, 1, 0),
        "rings_at": (TURNING, 0),
        "sources_at": (BRIDGE, 0),
    },
    "cores": {
        "core_of": (BRIDGE, 0),
        "home_of": (BRIDGE, 0),
    },
    "centres": {
        "is_level": (EVEN, 0),
        "is_upright": (EVEN, 0),
        "demands_of": (EVEN, 0),
        "even_turns": (EVEN, 0),
        "central_turns": (EVEN, 0),
        "stray_source": (EVEN, 0, 3),
        "centre_of": (EVEN, 0),
    },
    "linewalks": {
        "still_turns": (EVEN, GOING),
        "still_walk": (EVEN, GOING),
        "rests_on_line": (EVEN, GOING, (0, 2, ())),
        "keeps_line": (EVEN, GOING, (0, 3, ())),
        "line_walks": (EVEN, GOING),
        "line_numbers": (EVEN, (GOING, (0, 2, ())), GOING),
    },
    "commuting": {
        "do_commute": (EVEN, GOING, OTHER),
        "what_commutes": (EVEN, GOING),
        "commuting_sort": (EVEN, GOING),
    },
    "roots": {
        "greatest_root": (EVEN, GOING),
        "root_for": (EVEN, GOING, 2),
        "has_lone_roots": (EVEN, GOING),
        "common_powers": (EVEN, GOING, OTHER),
    },
    "readers": {
        "span_reader": (EVEN, 0, GIVEN),
        "is_reader": (EVEN, READER),
        "is_folded": (EVEN, READER),
        "is_plain_reader": (EVEN, READER),
        "reads_walk": (EVEN, READER, GOING),
        "reader_walks": (EVEN, READER),
    },
    "spans": {
        "in_span": (EVEN, 0, GIVEN, OTHER),
        "same_span": (EVEN, 0, GIVEN, (OTHER,)),
        "span_index": (EVEN, 0, GIVEN),
        "free_rank": (EVEN, 0, (GOING,)),
        "span_paper": (EVEN, 0, GIVEN, GOING),
        "shows_in_span": (EVEN, 0, GIVEN, GOING, (("given", 1),)),
    },
    "ownwebs": {
        "own_web": (EVEN, 0, GIVEN),
        "walk_out": (EVEN, 0, GIVEN, (0, 3, ((0, 1, 2),))),
        "walk_in": (EVEN, 0, GIVEN, GOING),
    },
    "spantables": {
        "span_table": (EVEN, 0, INDEXED),
        "is_span_table": (EVEN, 0, TABLE),
        "table_reader": (EVEN, 0, TABLE),
    },
    "changes": {
        "can_change": (BRIDGE, CHANGES[0]),
        "changed_web": (BRIDGE, CHANGES),
        "draws_in": (BRIDGE,),
    },
    "carrying": {
        "carried_walk": (BRIDGE, CHANGES, (0, 1, ((0, 1, 2),))),
        "taken_back": (BRIDGE, CHANGES, (0, 1, ((0, -1, 2),))),
        "carried_room": (BRIDGE, CHANGES, 1),
    },
    "counts": {
        "turn_counts": (TURNING, WALK),
        "tie_counts": (TURNING, WALK),
        "exchange_rows": (BRIDGE,),
        "rest_rows": (BRIDGE,),
        "rest_of": (BRIDGE, (7, -5)),
        "have_like_counts": (TURNING, WALK, (0, 3, ())),
        "exchange_multiples": (TURNING, WALK, (0, 3, ())),
    },
    "divisors": {
        "free_number": (EVEN, 0),
        "divisors_at": (KLEIN, 0),
    },
    "pictures": {
        "picture_of": (TURNING, ((1, 2),), WALK),
        "led_by": (((2, 3), (1, 2)), (-5, 7)),
        "map_after": (((2, 3), (1, 2)), ((-1, 1), (0, 1))),
        "map_back": (((2, 3), (1, 2)),),
        "fixed_place": (((2, 3), (1, 2)),),
        "is_pictured": (BRIDGE, 1),
    },
    "rests": {
        "is_modulus": (TURNING, 35),
        "rest_map": (TURNING, 35, (-4,), WALK),
        "rest_table": (TURNING, 35, (-4,), WALK),
    },
    "texts": {
        "web_text": (BRIDGE,),
        "walk_text": (WALK,),
        "read_web": ("2 rooms; 0 1 2 -3",),
        "read_walk": (BRIDGE, "0: 3 t0 -2 t0' 5"),
    },
    "shown": {
        "answer_to": (EVEN, ("in span", 0, GIVEN, GOING)),
        "certified": (EVEN, ("same span", 0, GIVEN, (OTHER,))),
        "is_certified": (EVEN, ("in span", 0, GIVEN, GOING), True, (("given", 1),)),
    },
}


# Each class of the interface with its methods and operators.
CLASSES = {
    "keeper": ("Keeper", ("web_now", "names_now", "walk_of_name", "keep", "forget", "add_room", "add_tie", "cut_tie", "undo", "redo",
                          "equal_names", "plain_of_name", "joined_names", "groups", "tried", "tried_within", "__contains__",
                          "__iter__", "__eq__", "__enter__", "__exit__")),
    "desk": ("Desk", ("line",)),
}


def functions():
    for module, calls in CALLS.items():
        for name, arguments in calls.items():
            yield module, name, getattr(importlib.import_module("tubewords." + module), name), arguments


class ConventionsTest(unittest.TestCase):
    def test_functions_are_defined_in_their_files(self):
        for module, name, function, arguments in functions():
            with self.subTest(name=name):
                self.assertTrue(inspect.isfunction(function))
                self.assertEqual((function.__module__, function.__name__), ("tubewords." + module, name))

    def test_classes_are_defined_in_their_files_and_methods_in_the_classes(self):
        for module, (name, methods) in CLASSES.items():
            told = getattr(importlib.import_module("tubewords." + module), name)
            self.assertTrue(inspect.isclass(told))
            self.assertEqual((told.__module__, told.__name__), ("tubewords." + module, name))
            for method in methods:
                self.assertIn(method, vars(told))

    def test_arguments_are_passed_by_position(self):
        for module, name, function, arguments in functions():
            with self.subTest(name=name):
                inspect.signature(function).bind(*arguments)

    def test_equal_calls_return_equal_results_and_change_nothing(self):
        first = {}
        for module, name, function, arguments in functions():
            kept = copy.deepcopy(arguments)
            first[name] = function(*arguments)
            self.assertEqual(arguments, kept)
        for module, name, function, arguments in reversed(list(functions())):
            with self.subTest(name=name):
                self.assertEqual(function(*copy.deepcopy(arguments)), first[name])

    def test_answers_are_true_or_false(self):
        for name in ("is_web", "is_walk", "is_closed", "is_plain", "are_equal", "is_equality_paper", "is_place",
                     "keeps_place", "is_turned", "goes_on", "is_plan", "comes_before", "are_complete", "are_carried",
                     "shows_carrying", "is_level", "is_upright", "rests_on_line", "keeps_line", "do_commute",
                     "has_lone_roots", "is_reader", "is_folded", "is_plain_reader", "reads_walk", "in_span",
                     "same_span", "shows_in_span", "is_span_table", "can_change", "have_like_counts",
                     "is_pictured", "is_modulus", "answer_to", "is_certified"):
            for module, other, function, arguments in functions():
                if other == name:
                    self.assertIsInstance(function(*arguments), bool)

    def test_results_hold_no_other_kinds(self):
        def check(value):
            self.assertIn(type(value), (int, str, bool, tuple, type(None)))
            if isinstance(value, tuple):
                for part in value:
                    check(part)

        for module, name, function, arguments in functions():
            with self.subTest(name=name):
                check(function(*arguments))
