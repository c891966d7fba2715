"""The interface: each name stands in its module, is defined there, and takes its arguments in their order."""

import importlib
import inspect
import unittest

CONSTANTS = {
    "chainpacks.base.words": {"MAX_FIGURES": 200, "MAX_LETTERS": 8},
    "chainpacks.base.chains": {"MAX_SIZES": 12},
}
FUNCTIONS = {
    "chainpacks.base.words": {name: "value" for name in ("is_integer", "is_count", "is_size", "is_name")},
    "chainpacks.base.chains": {
        "is_sizes": "value", "is_chain": "value", "gap_of": "sizes", "quotients": "chain", "cut_to": "size number",
        "figures_of": "chain number", "number_of": "chain rest figures", "joined_chain": "one other",
        "is_link": "low high value", "longest_chain": "sizes", "many_chains": "sizes", "chain_parts": "sizes",
        "clashing": "sizes", "is_chain_parts": "sizes value", "is_clashing": "sizes value",
    },
}


class TestInterface(unittest.TestCase):
    def test_constants(self):
        for module, told in CONSTANTS.items():
            for name, value in told.items():
                self.assertEqual(getattr(importlib.import_module(module), name), value)

    def test_functions(self):
        for module, told in FUNCTIONS.items():
            for name, words in told.items():
                call = getattr(importlib.import_module(module), name)
                self.assertTrue(inspect.isfunction(call), name)
                self.assertEqual(call.__module__, module)
                self.assertEqual(list(inspect.signature(call).parameters), words.split(), name)


if __name__ == "__main__":
    unittest.main()
