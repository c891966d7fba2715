"""The interface: each name stands in its module, is defined there, and takes its arguments in their order."""

import importlib
import inspect
import unittest

CONSTANTS = {
    "chainpacks.base.words": {"MAX_FIGURES": 200, "MAX_LETTERS": 8},
    "chainpacks.base.chains": {"MAX_SIZES": 12},
    "chainpacks.things.lots": {"MAX_SIZES": 12},
    "chainpacks.things.stores": {"MAX_RUNS": 40},
    "chainpacks.pack.packings": {"MAX_RUNS": 2000, "MAX_STORE": 40, "MAX_SIZES": 12},
    "chainpacks.pack.rules": {"RULES": ("first", "last", "tightest"), "MAX_ROW": 200},
    "chainpacks.worth.goods": {"MAX_GOODS": 40},
    "chainpacks.use.bench": {"MAX_ORDERS": 100},
}
FUNCTIONS = {
    "chainpacks.base.words": {name: "value" for name in ("is_integer", "is_count", "is_size", "is_name")},
    "chainpacks.base.chains": {
        "is_sizes": "value", "is_chain": "value", "gap_of": "sizes", "quotients": "chain", "cut_to": "size number",
        "figures_of": "chain number", "number_of": "chain rest figures", "joined_chain": "one other",
        "is_link": "low high value", "longest_chain": "sizes", "many_chains": "sizes", "chain_parts": "sizes",
        "clashing": "sizes", "is_chain_parts": "sizes value", "is_clashing": "sizes value",
    },
    "chainpacks.pack.packings": {"is_filling": "value", "load_of": "filling", "is_packing_of": "lot store value"},
    "chainpacks.pack.rules": {
        "is_rule": "value", "pack": "lot store * rule", "is_greedy": "lot store value", "is_row": "value", "lot_of": "row",
        "pack_row": "row store", "is_taken": "row store",
    },
    "chainpacks.decide.levels": {
        "levels_of": "lot store", "fits": "lot store", "barring_sizes": "lot store", "spare": "lot store size",
        "more_rooms": "lot store room", "fit_paper": "lot store", "is_fit_paper": "lot store value",
    },
    "chainpacks.decide.profiles": {
        "profile": "chain store", "is_profile": "chain value", "plain_store": "chain units", "takes_all": "chain one other",
        "are_alike": "chain one other", "parting_lot": "chain one other", "common_store": "chain one other",
        "joint_store": "chain one other", "is_easier": "lot other", "parting_store": "lot other",
    },
    "chainpacks.decide.fooled": {
        "fooling_pairs": "sizes", "fooled_number": "sizes", "fooled_lot": "sizes * rule", "is_fooled_lot": "sizes value * rule",
        "safe_paper": "sizes", "is_safe_paper": "sizes value",
    },
    "chainpacks.decide.fewest": {
        "fewest_rooms": "lot room", "least_room": "lot rooms", "fewest_of": "lot store", "least_cap": "lot store",
        "rooms_paper": "lot store", "is_rooms_paper": "lot store value", "cap_paper": "lot store",
        "is_cap_paper": "lot store value",
    },
    "chainpacks.decide.most": {
        "most_things": "lot store", "most_total": "lot store", "keep_things": "lot store", "keep_total": "lot store",
        "is_kept_things": "lot store value", "is_kept_total": "lot store value", "things_paper": "lot store",
        "total_paper": "lot store", "is_things_paper": "lot store value", "is_total_paper": "lot store value",
        "keep_all_of": "lot store sizes",
    },
    "chainpacks.worth.goods": {
        "best_worth": "goods store", "best_choice": "goods store", "is_best_choice": "goods store value",
        "worths_of": "goods store sizes", "best_full": "goods total", "least_full": "goods total",
        "full_choice": "goods total * least", "is_full_choice": "goods total value * least",
    },
    "chainpacks.worth.purses": {
        "can_pay": "purse amount", "lacking_sizes": "purse amount", "fewest_coins": "purse amount",
        "most_coins": "purse amount", "pay_paper": "purse amount", "is_pay_paper": "purse amount value",
        "count_amounts": "purse", "amounts_below": "purse amount", "amount_at": "purse index", "is_gapless": "purse",
        "can_trade": "purse till amount", "trade": "purse till amount", "is_trade": "purse till amount value",
    },
    "chainpacks.decide.arrivals": {
        "is_open": "chain store", "shutter": "chain store", "is_shutter": "chain store value", "fooled_row": "chain store",
        "is_fooled_row": "chain store value", "opened": "chain store",
    },
    "chainpacks.text.texts": {
        "write": "value", "read": "text", "write_fit": "paper", "read_fit": "text", "brief": "lot", "lot_in": "text",
    },
}
METHODS = {
    ("chainpacks.things.lots", "Lot"): {
        "__init__": "self counts", "units": "self size", "smallest": "self number", "largest": "self number",
        "thing_at": "self index", "is_part_of": "self value", "with_count": "self size number", "scaled": "self factor",
    },
    ("chainpacks.things.stores", "Store"): {
        "__init__": "self *runs", "units": "self size", "room_at": "self index", "part": "self first last",
        "backward": "self", "ascending": "self", "cut": "self size", "capped": "self room", "exchanged": "self index room",
        "each_room": "self",
    },
    ("chainpacks.pack.packings", "Packing"): {
        "__init__": "self *runs", "room_at": "self index", "left_at": "self index", "spot_of": "self size index",
        "joined": "self other", "backward": "self", "moved": "self source target size * many", "is_alike": "self value",
    },
    ("chainpacks.worth.goods", "Goods"): {"__init__": "self counts", "is_choice": "self value", "less": "self choice"},
    ("chainpacks.use.bench", "Bench"): {
        "__init__": "self chain store", "put": "self name lot", "add": "self name lot", "take": "self name lot",
        "cancel": "self name", "put_most": "self name lot", "promise_of": "self lot", "move_to": "self store",
        "deliver": "self name lot", "room_for": "self size", "plan": "self", "least_store": "self room",
        "undo": "self * many", "twin": "self", "trial": "self", "during": "self call",
    },
    ("chainpacks.text.shell", "Shell"): {"__init__": "self bench", "__call__": "self command", "bench": "self"},
}
PROPERTIES = {
    ("chainpacks.things.lots", "Lot"): "counts sizes lines number total is_chained",
    ("chainpacks.things.stores", "Store"): "runs lines number total greatest rooms",
    ("chainpacks.pack.packings", "Packing"): "runs lines lot store number load left",
    ("chainpacks.worth.goods", "Goods"): "counts lines lot load worth",
    ("chainpacks.use.bench", "Bench"): "chain store orders whole promise tight",
}
SIGNS = {
    ("chainpacks.things.lots", "Lot"): "add sub mul getitem contains len iter eq str",
    ("chainpacks.things.stores", "Store"): "add contains len iter eq str",
    ("chainpacks.pack.packings", "Packing"): "contains len iter eq str",
    ("chainpacks.worth.goods", "Goods"): "contains len iter eq str",
    ("chainpacks.use.bench", "Bench"): "contains getitem len iter eq str",
    ("chainpacks.text.shell", "Shell"): "call str",
}
DEFAULTS = {
    ("chainpacks.things.lots", "Lot.__init__"): {"counts": None},
    ("chainpacks.pack.packings", "Packing.moved"): {"many": 1},
    ("chainpacks.pack.rules", "pack"): {"rule": "first"},
    ("chainpacks.decide.fooled", "fooled_lot"): {"rule": "first"},
    ("chainpacks.decide.fooled", "is_fooled_lot"): {"rule": "first"},
    ("chainpacks.use.bench", "Bench.undo"): {"many": 1},
    ("chainpacks.worth.goods", "full_choice"): {"least": False},
    ("chainpacks.worth.goods", "is_full_choice"): {"least": False},
}


def words_of(call):
    """The names of the parameters, with a star before each one behind which names are told, and before the rest."""
    words = []
    for parameter in inspect.signature(call).parameters.values():
        if parameter.kind == parameter.KEYWORD_ONLY and "*" not in words:
            words.append("*")
        words.append(f"*{parameter.name}" if parameter.kind == parameter.VAR_POSITIONAL else parameter.name)
    return words


def defaults_of(call):
    """The default values of a function."""
    told = inspect.signature(call).parameters.values()
    return {parameter.name: parameter.default for parameter in told if parameter.default is not parameter.empty}


def told_class(place):
    """The class that stands in a module under this name."""
    return getattr(importlib.import_module(place[0]), place[1])


class TestInterface(unittest.TestCase):
    def test_constants(self):
        for module, told in CONSTANTS.items():
            for name, value in told.items():
                self.assertEqual(getattr(importlib.import_module(module), name), value)

    def test_functions(self):
        for module, told in FUNCTIONS.items():
            for name, words in told.items():
                call = getattr(importlib.import_module(module), name)
                self.assertTrue(inspect.isfunction(call), name)
                self.assertEqual(call.__module__, module)
                self.assertEqual(words_of(call), words.split(), name)
                self.assertEqual(defaults_of(call), DEFAULTS.get((module, name), {}), name)

    def test_methods_stand_in_the_class_itself(self):
        for place, told in METHODS.items():
            kind = told_class(place)
            self.assertEqual((kind.__module__, kind.__bases__), (place[0], (object,)))
            for name, words in told.items():
                call = vars(kind)[name]
                self.assertTrue(inspect.isfunction(call), name)
                self.assertEqual(words_of(call), words.split(), name)
                self.assertEqual(defaults_of(call), DEFAULTS.get((place[0], f"{place[1]}.{name}"), {}), name)
            if place[1] not in ("Bench", "Shell"):
                self.assertIsInstance(vars(kind)["from_lines"], classmethod)
                self.assertEqual(words_of(kind.from_lines), ["*lines"])

    def test_properties_and_signs_stand_in_the_class_itself(self):
        for place, words in PROPERTIES.items():
            for name in words.split():
                self.assertIsInstance(vars(told_class(place))[name], property, name)
        for place, words in SIGNS.items():
            for name in words.split():
                self.assertIn(f"__{name}__", vars(told_class(place)))


if __name__ == "__main__":
    unittest.main()
