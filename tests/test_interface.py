"""The interface: names, parameters, and the files that define them."""

import importlib
import inspect
import unittest

from splitbooks import books, bothrooms, crossrooms, doingtables, families, pairrooms, rooms
from splitbooks.bothrooms import free_both
from splitbooks.crossrooms import turning_cross
from splitbooks.doingtables import book_table, turning_doing
from splitbooks.doubles import double
from splitbooks.live import LiveBook
from splitbooks.pairrooms import things_room
from splitbooks.rooms import count_room, own_room
from splitbooks.texts import book_text

INTERFACE = {
    "books": {"what_is_wrong": "prime joins one splits counts"},
    "doings": {
        "joined": "book first second", "joined_all": "book things", "split": "book thing", "counted": "book thing",
        "backed": "book thing", "squares_joined": "book first second", "halves_joined": "book square",
        "convolved": "book other first second", "unit_map": "book other", "convolved_back": "book other first",
        "back_undone": "book"},
    "bases": {
        "in_basis": "book rows", "coordinates": "book rows thing", "other_way": "book", "joins_turned": "book",
        "splits_turned": "book", "beside": "one other"},
    "leadings": {"is_leading": "one other thing", "likeness": "one other", "are_alike": "one other"},
    "families": {"group_book": "prime table", "shift_book": "prime order root", "slip_book": "prime"},
    "brackets": {"bracket_book": "prime brackets powers"},
    "selfsplit": {"is_selfsplit": "book thing", "selfsplit_things": "book", "selfsplit_group": "book"},
    "betweens": {"betweens": "book first second", "layers": "book"},
    "evens": {"is_even": "book thing", "evens": "book", "even_brackets": "book", "even_leading": "book"},
    "swallowed": {
        "swallowed_left": "book", "swallowed_right": "book", "is_swallowed_left": "book thing",
        "is_swallowed_right": "book thing", "sides_alike": "book", "row_tells": "book row thing",
        "firsts_told": "book row thing", "seconds_told": "book row thing", "shift_row": "book"},
    "forms": {
        "swallowing_row": "book", "row_form": "book row", "is_form": "book thing", "passing_square": "book",
        "duals": "book rows", "back_by_form": "book", "shifted": "book thing", "shift_of": "book row"},
    "turners": {"turner": "book", "form_turner": "book square"},
    "fourths": {"rows_leader": "book", "fourth_by_leaders": "book", "back_order": "book", "leader_orders": "book"},
    "fading": {
        "left_lot": "book things", "is_fading": "book thing", "fading_things": "book", "fading_steps": "book",
        "tracing_rows": "book"},
    "simples": {
        "falls_apart": "book", "is_parting_square": "book thing", "parting_square": "book", "left_keeper": "book things",
        "map_trace": "book rows", "trace_by_halves": "book rows", "falls_apart_both_ways": "book", "middle": "book",
        "walls_of": "book"},
    "kinds": {"simple_leads": "book", "simple_kinds": "book"},
    "doubles": {"double": "book", "from_things": "book", "from_rows": "book", "double_crossing": "book"},
    "crossings": {"is_crossing": "book thing", "crossing_undone": "book square", "crossings": "book"},
    "strands": {"three_strands": "book square", "thing_undone": "book thing", "crossing_thing": "book square"},
    "leaders": {
        "leading_thing": "book rows", "square_leader": "book", "selfsplit_leaders": "book", "even_form": "book"},
    "rooms": {
        "room_fault": "book leads", "led_guest": "room thing guest", "own_room": "book", "count_room": "book"},
    "besides": {
        "beside_rooms": "one other", "rooms_together": "one other", "turned_room": "room", "turned_back_room": "room"},
    "alongs": {
        "is_along": "one other thing", "alongs": "one other", "left_alone": "room", "grown_guests": "room guests",
        "is_inner": "room thing", "inner_room": "room guests", "left_over": "room guests"},
    "means": {"mean_map": "one other rows", "spread_map": "room", "parting": "room guests"},
    "falls": {"falls_fault": "book falls", "falls_of": "room", "leads_of": "book falls"},
    "bothrooms": {
        "kept_guests": "both", "told_by_kept": "both guest", "free_both": "book many", "room_both": "room",
        "falls_both": "book falls", "rows_both": "book"},
    "turning": {"turning_room": "book", "turning_back_room": "book"},
    "crossrooms": {
        "turning_cross": "book", "turning_back_cross": "book", "crossing_cross": "room square", "beside_cross": "one other",
        "room_exchange": "one other", "double_room": "cross", "cross_of": "book room"},
    "inner": {
        "inner_fault": "book things", "side_fault": "book things side", "inner_by": "book things",
        "side_by": "book things side", "shared_span": "book things more", "inner_book": "book things",
        "inner_spans": "book", "side_spans": "book side"},
    "freeing": {
        "free_left": "book things", "free_right": "book things", "is_free_left": "book things thing",
        "is_free_right": "book things thing"},
    "leftovers": {
        "lost_left": "book things", "lost_right": "book things", "unshifted": "book things side",
        "mate": "book things side", "stays": "book things", "left_by": "book things",
        "leading_to_left": "book things", "together_fit": "book things more"},
    "factors": {"is_bare": "book", "factors": "book"},
    "crossed": {
        "pair_fault": "one other moves turns", "crossed_group": "one other moves turns",
        "crossed_from": "table first second", "crossed_pairs": "one other",
        "crossed_swapped": "one other moves turns", "crossed_book": "prime one other moves turns"},
    "doingtables": {
        "table_fault": "prime joins one", "book_table": "book", "full_table": "table wide",
        "is_table_leading": "one other thing", "doing_fault": "book table doing", "is_doing": "book table doing",
        "done": "book table doing first second", "unmoved": "book table doing", "plain_doing": "book table",
        "turning_doing": "book"},
    "smash": {
        "smash": "book table doing", "table_in_smash": "book table doing", "book_in_smash": "book table doing",
        "smash_doing": "book table doing", "twice_smashed": "book table doing"},
    "full": {"unfolding": "book table doing"},
    "wide": {
        "pair_rows": "book table doing", "wide_rank": "book table doing", "is_wide": "book table doing",
        "through_swallowed": "book table doing", "ways_through": "book table doing",
        "smash_map": "book table doing thing", "kept_maps": "book table doing"},
    "twists": {
        "is_twist": "book thing", "twist_undone": "book square", "twisted": "book square", "twist_leader": "book square",
        "led_twist": "book square thing", "twist_lead": "book one other", "twisted_crossing": "book square crossing"},
    "twisttables": {
        "twisted_table": "book table doing square", "twist_likeness": "book table doing square", "twists": "book",
        "function_twists": "prime table"},
    "braids": {
        "is_braid": "strands thing", "braid_undone": "strands braid", "excess": "strands braid",
        "places": "strands braid", "things_led": "table row braid", "orders_led": "orders braid"},
    "freewords": {
        "words_led": "strands braid", "are_alike_braids": "strands one other", "parting_orders": "strands one other",
        "is_parting": "strands one other thing"},
    "weaves": {"exchange": "one other square", "braid_map": "room square strands braid"},
    "ribbons": {
        "is_weigher": "book square thing", "weighers": "book square", "is_ribbon": "book square thing",
        "ribbon_of": "book square weigher", "ribbons": "book square"},
    "closings": {
        "closing": "room square weigher strands braid", "twist": "room square weigher",
        "kept_number": "room square weigher strands braid"},
    "surfaces": {"is_cut": "thing", "genus": "cut", "handle": "book", "glued_number": "book cut"},
    "grouppairs": {
        "keeper": "table thing", "pairs_past": "table", "pair_orbits": "table", "pair_led": "table pair letters",
        "ways": "prime table thing"},
    "pairrooms": {
        "class_room": "prime table thing way", "things_room": "prime table", "pair_map": "room strands braid",
        "pair_closing": "room strands braid", "pair_twist": "room", "pair_kept": "room strands braid", "as_room": "room"},
    "fewbooks": {"few_books": "prime size", "few_place": "book", "few_likeness": "book", "few_alike": "one other"},
    "fewcounts": {"self_likenesses": "book", "few_counts": "prime size"},
    "live": {"started": "start", "is_deed": "thing"},
    "texts": {"book_text": "book", "book_of_text": "text"},
    "deedtexts": {"start_text": "start", "start_of_text": "text", "deed_text": "deed", "deed_of_text": "text"},
    "journals": {"journal_text": "live", "led_live": "text"},
    "numbers": {"kind_things": "book", "hull_numbers": "book", "beside_numbers": "book", "turned_kinds": "book"},
}


CLASSES = {
    "books": {"Splitbook": ("prime joins one splits counts", "prime size joins one splits counts back")},
    "rooms": {"Room": ("book leads", "book size leads")},
    "bothrooms": {"BothRoom": ("book leads falls", "book size leads falls")},
    "crossrooms": {"CrossRoom": ("book leads falls", "book size leads falls")},
    "doingtables": {"ProductTable": ("prime joins one", "prime size joins one")},
    "pairrooms": {"PairRoom": ("prime table grades leads", "prime table grades leads size")},
}

# Classes that change: their parameters, attributes, and methods with parameters.
CHANGING = {
    "live": {"LiveBook": ("start", "prime start book standing", {
        "do": "deed", "deeds": "", "undo": "", "redo": "", "watch_thing": "name row", "watch_row": "name row",
        "unwatch": "name", "watched": "", "values_told": "", "told": "", "mark": "name", "marks": "", "marked": "name",
        "carried": "name"})},
    "desk": {"Desk": ("start", "live", {"say": "line"})},
}


class InterfaceTest(unittest.TestCase):

    def test_functions(self):
        for module, functions in INTERFACE.items():
            held = importlib.import_module("splitbooks." + module)
            for name, parameters in functions.items():
                with self.subTest(module=module, name=name):
                    function = getattr(held, name)
                    self.assertTrue(inspect.isfunction(function))
                    self.assertEqual(function.__module__, "splitbooks." + module)
                    told = inspect.signature(function).parameters.values()
                    self.assertEqual([part.name for part in told], parameters.split())
                    for part in told:
                        self.assertEqual(part.kind, inspect.Parameter.POSITIONAL_OR_KEYWORD)
                        self.assertIs(part.default, inspect.Parameter.empty)

    def test_classes(self):
        for module, classes in CLASSES.items():
            held = importlib.import_module("splitbooks." + module)
            for name, (parameters, attributes) in classes.items():
                with self.subTest(name=name):
                    made = getattr(held, name)
                    self.assertTrue(inspect.isclass(made))
                    self.assertEqual(made.__module__, "splitbooks." + module)
                    self.assertEqual(list(inspect.signature(made).parameters), parameters.split())
                    self.assertIn("__init__", vars(made))
                    self.assertIn("__eq__", vars(made))
                    self.assertEqual(sorted(vars(self.some_object(name))), sorted(attributes.split()))

    def test_changing_classes(self):
        for module, classes in CHANGING.items():
            held = importlib.import_module("splitbooks." + module)
            for name, (parameters, attributes, methods) in classes.items():
                made = getattr(held, name)
                self.assertEqual(made.__module__, "splitbooks." + module)
                self.assertEqual(list(inspect.signature(made).parameters), parameters.split())
                self.assertTrue(set(attributes.split()) <= set(vars(made(start=("slip", 2)))))
                for method, words in methods.items():
                    self.assertIn(method, vars(made))
                    told = list(inspect.signature(vars(made)[method]).parameters.values())
                    self.assertEqual([part.name for part in told[1:]], words.split())
                    for part in told:
                        self.assertEqual(part.kind, inspect.Parameter.POSITIONAL_OR_KEYWORD)
                        self.assertIs(part.default, inspect.Parameter.empty)
        desk = importlib.import_module("splitbooks.desk").Desk(start=("group", 3, [[0, 1], [1, 0]]))
        live = desk.live
        live.do(deed=("other",))
        live.watch_thing(name="a", row=[1, 2])
        live.watch_row(row=[1, 1], name="b")
        live.mark(name="m")
        self.assertEqual((live.marked(name="m"), live.carried(name="m")), (live.book, ("thing", ((1, 0), (0, 1)))))
        live.unwatch(name="a")
        self.assertEqual(desk.say(line="size"), "2")

    def some_object(self, name):
        book = families.group_book(3, [[0, 1], [1, 0]])
        return {"Splitbook": book, "Room": own_room(book), "BothRoom": free_both(book, 1),
                "CrossRoom": turning_cross(book), "ProductTable": book_table(book),
                "PairRoom": things_room(3, [[0, 1], [1, 0]])}[name]

    def test_parameters_by_name(self):
        book = families.group_book(table=[[0, 1], [1, 0]], prime=3)
        values = {"book": book, "one": book, "other": book, "first": (1, 0), "second": (0, 1), "thing": (1, 0),
                  "things": [(1, 0)], "square": ((1, 0), (0, 1)), "rows": ((1, 0), (1, 1)), "prime": 3, "order": 2,
                  "root": 2, "row": (0, 1), "table": [[0]], "brackets": [[[0]]], "powers": [[1]],
                  "room": own_room(book), "guest": (1, 2), "guests": [(1, 1)], "leads": own_room(book).leads,
                  "falls": book.splits, "both": free_both(book, 2), "many": 2, "cross": turning_cross(book), "side": 1,
                  "more": [(0, 1)], "moves": [[0, 1], [0, 1]], "turns": [[0, 0], [1, 1]], "doing": turning_doing(book),
                  "wide": 2, "joins": [[[1]]], "strands": 2, "braid": [1, 1], "orders": [(1, 0), (0, 1)],
                  "weigher": (0, 1), "crossing": ((2, 2), (2, 1)), "cut": [[1, -1]], "pair": (0, 1), "letters": "st",
                  "way": (1, 2), "size": 3, "start": ("slip", 2), "deed": ("other",), "live": LiveBook(("slip", 2))}
        of_modules = {
            "besides": {"one": own_room(book), "other": own_room(book)},
            "alongs": {"one": own_room(book), "other": own_room(book)},
            "means": {"one": own_room(book), "other": own_room(book)},
            "crossrooms": {"one": turning_cross(book), "other": turning_cross(book)},
            "inner": {"more": [(1, 1)]}, "leftovers": {"more": [(1, 0)]},
            "crossed": {"one": [[0, 1], [1, 0]], "other": [[0, 1], [1, 0]], "table": [[0, 1], [1, 0]], "first": [0, 1],
                        "second": [0]},
            "doingtables": {"table": book_table(book), "one": book_table(book), "other": book_table(book)},
            "smash": {"table": book_table(book)}, "full": {"table": book_table(book)},
            "wide": {"table": book_table(book), "thing": [0, 1, 2, 0]},
            "twists": {"square": ((2, 2), (2, 1)), "one": ((1, 0), (0, 0)), "other": ((2, 2), (2, 1))},
            "twisttables": {"table": book_table(book), "square": ((2, 2), (2, 1))},
            "braids": {"table": [[0, 1], [1, 0]], "row": [0, 1]}, "freewords": {"one": [1], "other": [-1]},
            "weaves": {"one": own_room(book), "other": own_room(book), "square": ((2, 2), (2, 1))},
            "ribbons": {"square": ((2, 2), (2, 1))},
            "closings": {"square": ((2, 2), (2, 1)), "room": count_room(book)},
            "grouppairs": {"table": [[0, 1], [1, 0]], "thing": 1},
            "pairrooms": {"table": [[0, 1], [1, 0]], "thing": 1, "room": things_room(3, [[0]])}, "live": {"thing": ("other",)}}
        special = {"convolved": {"first": book.back, "second": book.back}, "convolved_back": {"first": book.back},
                   "squares_joined": {"first": book.back, "second": book.back}, "betweens": {"second": (1, 0)},
                   "crossing_undone": {"square": ((1, 0), (0, 0))}, "crossing_thing": {"square": ((1, 0), (0, 0))},
                   "crossing_cross": {"square": ((1, 0), (0, 0))}, "table_fault": {"one": [1]},
                   "cross_of": {"room": count_room(double(book))},
                   "function_twists": {"table": [[0, 1], [1, 0]]}, "is_cut": {"thing": [[1, -1]]},
                   "book_of_text": {"text": book_text(book)}, "start_of_text": {"text": "slip 2"},
                   "deed_of_text": {"text": "other"}, "led_live": {"text": "live slip 2"}, "told_by_kept": {"guest": (1, 0, 0, 2)},
                   "what_is_wrong": {"joins": [[[1]]], "one": [1], "splits": [[[1]]], "counts": [1]}}
        for module, functions in INTERFACE.items():
            held = importlib.import_module("splitbooks." + module)
            for name, parameters in functions.items():
                with self.subTest(module=module, name=name):
                    named = {word: values.get(word) for word in parameters.split()}
                    more = of_modules.get(module, {})
                    named.update({word: more[word] for word in more if word in named})
                    named.update(special.get(name, {}))
                    found = getattr(held, name)(**named)
                    again = getattr(held, name)(*[named[word] for word in parameters.split()])
                    if name == "led_live":
                        found, again = found.book, again.book
                    self.assertEqual(found, again)
        self.assertEqual(pairrooms.PairRoom(leads=[[[1]]], grades=[0], table=[[0]], prime=3), things_room(3, [[0]]))
        self.assertEqual(rooms.Room(leads=book.joins, book=book), own_room(book))
        self.assertEqual(bothrooms.BothRoom(falls=book.splits, leads=book.joins, book=book), free_both(book, 1))
        self.assertEqual(crossrooms.CrossRoom(falls=book.splits, leads=[[[1, 0], [0, 1]]] * 2, book=book).size, 2)
        self.assertEqual(doingtables.ProductTable(one=book.one, joins=book.joins, prime=3), book_table(book))
        self.assertEqual(books.Splitbook(counts=[1], splits=[[[1]]], one=[1], joins=[[[1]]], prime=3),
                         books.Splitbook(3, [[[1]]], [1], [[[1]]], [1]))


if __name__ == "__main__":
    unittest.main()
