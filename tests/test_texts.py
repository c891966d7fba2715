"""Stage 16: texts, with the promises 0.1 to 0.6 and 16.1."""

import itertools
import unittest

from chainpacks.decide.levels import fit_paper
from chainpacks.errors import InvalidLot, InvalidOperation, InvalidPacking, InvalidPaper, InvalidStore, ParseError
from chainpacks.pack.packings import Packing
from chainpacks.pack.rules import pack
from chainpacks.text.texts import brief, lot_in, read, read_fit, write, write_fit
from chainpacks.things.lots import Lot
from chainpacks.things.stores import Store
from chainpacks.worth.goods import Goods
from wrong_values import LONGEST, TOO_LONG, all_values, not_lots, not_packings, not_size_values, raised

PARCELS = Lot({1: 5, 2: 3, 6: 4})
SHELVES = Store((10, 2), (7, 3))
PACKED = Packing((10, 2, ((1, 4), (6, 1))), (7, 2, ()), (7, 1, ((2, 3),)))
GOODS = Goods({(1, 3): 2, (1, 1): 4, (6, 10): 2})
TEXTS = {
    "lot\nsize 1 many 5\nsize 2 many 3\nsize 6 many 4": PARCELS,
    "store\nroom 10 many 2\nroom 7 many 3": SHELVES,
    "packing\nroom 10 many 2 hold 6 many 1, 1 many 4\nroom 7 many 2 hold nothing\nroom 7 many 1 hold 2 many 3": PACKED,
    "goods\nsize 1 worth 1 many 4\nsize 1 worth 3 many 2\nsize 6 worth 10 many 2": GOODS,
    "lot": Lot(), "store": Store(), "packing": Packing(), "goods": Goods({}),
    f"lot\nsize {LONGEST} many {LONGEST}": Lot({LONGEST: LONGEST}),
    f"store\nroom {LONGEST} many {LONGEST}\nroom 1 many 1": Store((LONGEST, LONGEST), (1, 1)),
    f"packing\nroom {LONGEST} many {LONGEST} hold {LONGEST} many 1": Packing((LONGEST, LONGEST, ((LONGEST, 1),))),
    f"goods\nsize {LONGEST} worth {LONGEST} many {LONGEST}": Goods({(LONGEST, LONGEST): LONGEST}),
}
BRIEFS = {
    "6 many 4, 2 many 3, 1 many 5": PARCELS, "nothing": Lot(), "1 many 1": Lot({1: 1}), f"{LONGEST} many {LONGEST}": Lot({LONGEST: LONGEST}),
    "3 many 2, 2 many 1": Lot({3: 2, 2: 1}), ", ".join(f"{size} many {size}" for size in range(12, 0, -1)): Lot({size: size for size in range(1, 13)}),
}
BAD_LINES = [
    "", " ", "x", "size 1 many 5 ", " size 1 many 5", "size  1 many 5", "size 1  many 5", "size 01 many 5", "size 1 many 05", "size 1 many 0",
    "size 0 many 5", "size -1 many 5", "size +1 many 5", "Size 1 many 5", "size 1 Many 5", "size 1 many", "size 1", "size 1 many 5, 2 many 3",
    f"size {TOO_LONG} many 5", f"size 1 many {TOO_LONG}", "size one many 5", "size 1 many 5.", "size 1_0 many 5", "many 5 size 1", "1 many 5",
    "room 1 many", "room 10 many 2 hold", "room 10 many 2 hold ", "room 10 many 2 hold none", "room 10 many 2 hold 1 many 4, 6 many 1",
    "room 10 many 2 hold 6 many 1 1 many 4", "room 10 many 2 hold 6 many 1,1 many 4", "room 10 many 2 holds 6 many 1", "room 10 hold 6 many 1",
    "room 10 many 2 hold 6 many 1, ", "room 10 many 2 hold 6 many 1, 6 many 1", "room 10 many 2  hold nothing", "room 010 many 2", "barred 6",
    "size 6 worth 10", "size 6 worth 010 many 2", "size 6 worth 10 many 2 many 2", "lot", "store", "packing", "goods", "nothing", "packed",
]


class TestExamples(unittest.TestCase):
    def test_first_example(self):
        told = [
            write(PARCELS), read("store\nroom 10 many 2\nroom 7 many 3") == SHELVES, write_fit(("barred", 6)), brief(PARCELS),
            lot_in("nothing") == Lot({}),
        ]
        self.assertEqual(told, [
            "lot\nsize 1 many 5\nsize 2 many 3\nsize 6 many 4", True, "barred 6", "6 many 4, 2 many 3, 1 many 5", True,
        ])


class TestTexts(unittest.TestCase):
    def test_texts_and_back(self):
        for text, value in TEXTS.items():
            self.assertEqual((write(value), read(text)), (text, value))
            self.assertIs(read(text).__class__, value.__class__)

    def test_orders_of_lines(self):
        for lines in itertools.permutations(PARCELS.lines):
            self.assertEqual(read("\n".join(("lot",) + lines)), PARCELS)
        for lines in itertools.permutations(GOODS.lines):
            self.assertEqual(read("\n".join(("goods",) + lines)), GOODS)
        self.assertEqual(read("store\nroom 7 many 3\nroom 10 many 2"), SHELVES.backward())
        self.assertEqual(read("store\nroom 7 many 3\nroom 7 many 2"), Store((7, 5)))
        self.assertEqual(read("packing\nroom 7 many 3 hold nothing\nroom 7 many 2 hold nothing"), Packing((7, 5, ())))

    def test_lines_left_out_twice_and_bent(self):
        for text, value in TEXTS.items():
            first, *lines = text.split("\n")
            for at in range(len(lines)):
                less = "\n".join([first] + lines[:at] + lines[at + 1:])
                self.assertNotEqual(read(less), value)
                twice = "\n".join([first] + lines[:at] + [lines[at]] * 2 + lines[at + 1:])
                if first in ("lot", "goods"):
                    # The second one is a line of an earlier size, or has an earlier pair.
                    self.assertEqual(raised(read, twice), (ParseError, at + 2))
                for bent in BAD_LINES:
                    if bent.split(" ")[0] not in ("size", "room"):
                        bad = "\n".join([first] + lines[:at] + [bent] + lines[at + 1:])
                        self.assertEqual(raised(read, bad), (ParseError, at + 1))
                for bent in (lines[at] + " ", " " + lines[at], lines[at].replace(" ", "  ", 1), lines[at].replace("many", "Many", 1), lines[at][:-1] + "x",
                             lines[at].replace("many ", "many 0", 1), lines[at] + "\r", lines[at].upper(), lines[at].replace("many", "", 1)):
                    bad = "\n".join([first] + lines[:at] + [bent] + lines[at + 1:])
                    self.assertEqual(raised(read, bad), (ParseError, at + 1))
            self.assertEqual(raised(read, text + "\n"), (ParseError, len(lines) + 1))
            self.assertEqual(raised(read, "\n" + text), (ParseError, 0))
            self.assertEqual(raised(read, first + "\n\n" + "\n".join(lines)), (ParseError, 1))
            self.assertEqual(raised(read, first + " \n" + "\n".join(lines)), (ParseError, 0))
            self.assertEqual(raised(read, " " + text), (ParseError, 0))

    def test_lines_that_are_none(self):
        for line in BAD_LINES:
            self.assertEqual(raised(read, f"lot\n{line}"), (ParseError, 1))
            self.assertEqual(raised(read, f"lot\nsize 3 many 1\n{line}\nx"), (ParseError, 2))
            self.assertEqual(raised(read, f"store\nroom 3 many 1\n{line}\nx"), (ParseError, 2))
            self.assertEqual(raised(read, f"packing\nroom 3 many 1 hold nothing\n{line}\nx"), (ParseError, 2))
            self.assertEqual(raised(read, f"goods\nsize 3 worth 1 many 1\n{line}\nx"), (ParseError, 2))

    def test_first_lines(self):
        for word in ("", "Lot", "lots", "lot ", " lot", "size 1 many 5", "bench", "packed", "barred 6", "nothing", "lot lot", "lot\r", "LOT", "good"):
            self.assertEqual(raised(read, word), (ParseError, 0))
            self.assertEqual(raised(read, word + "\nsize 1 many 5"), (ParseError, 0))

    def test_texts_of_no_value(self):
        sizes = [f"size {2 ** k} many 1" for k in range(13)]
        self.assertEqual(raised(read, "\n".join(["lot"] + sizes)), (InvalidLot, None))
        self.assertEqual(read("\n".join(["lot"] + sizes[:12])).number, 12)
        # A line that is none comes ahead of a lot with too many sizes.
        self.assertEqual(raised(read, "\n".join(["lot"] + sizes + ["x"])), (ParseError, 14))
        rooms = [f"room {1 + k % 2} many 1" for k in range(41)]
        self.assertEqual(raised(read, "\n".join(["store"] + rooms)), (InvalidStore, None))
        self.assertEqual(raised(read, "\n".join(["store"] + rooms + [""])), (ParseError, 42))
        self.assertEqual(raised(read, "packing\nroom 3 many 1 hold 2 many 2"), (InvalidPacking, None))
        self.assertEqual(raised(read, "packing\nroom 3 many 1 hold 2 many 2\nroom"), (ParseError, 2))
        self.assertEqual(raised(read, "goods\nsize 2 worth 1 many 1\nsize 3 worth 1 many 1"), (InvalidLot, None))
        self.assertEqual(raised(read, "goods\nsize 2 worth 1 many 1\nsize 3 worth 1 many 1\nsize 2 worth 1 many 1"), (ParseError, 3))
        goods = [f"size 2 worth {worth} many 1" for worth in range(1, 42)]
        self.assertEqual(raised(read, "\n".join(["goods"] + goods)), (InvalidLot, None))

    def test_wrong_values(self):
        for value in all_values() + [PARCELS.counts, SHELVES.runs, GOODS.counts]:
            if not isinstance(value, (Lot, Store, Packing, Goods)):
                self.assertEqual(raised(write, value), (InvalidOperation, None))
            if not isinstance(value, str):
                self.assertEqual(raised(read, value), (ParseError, None))
            else:
                self.assertEqual(raised(read, value), (ParseError, 0))


class TestFitPapers(unittest.TestCase):
    def test_papers_and_back(self):
        for paper, text in (
            (("barred", 6), "barred 6"), (("barred", LONGEST), f"barred {LONGEST}"), (("packed", Packing()), "packed"),
            (("packed", PACKED), "packed\n" + "\n".join(PACKED.lines)),
        ):
            self.assertEqual((write_fit(paper), read_fit(text)), (text, paper))
        for lot in (PARCELS, Lot(), Lot({6: 6}), Lot({1: 41})):
            paper = fit_paper(lot, SHELVES)
            self.assertEqual(read_fit(write_fit(paper)), paper)
        great = pack(Lot({1: 10 ** 150, 10 ** 60: 10 ** 90}), Store((10 ** 61 + 7, 10 ** 100), (3, 10 ** 199)))[0]
        self.assertEqual(read_fit(write_fit(("packed", great))), ("packed", great))

    def test_values_that_are_no_papers(self):
        for value in (
            ("barred",), ("packed",), ("barred", 6, 6), ["barred", 6], ("Barred", 6), (6, "barred"), ("barred", "6"), ("barred", PACKED), ("packed", 6),
            ("packed", PACKED.runs), ("packed", PACKED, None), ("barred", (6,)), PACKED, "barred 6", ("fooled", 6), (("barred", 6),), ("barred 6", 6),
        ):
            self.assertEqual(raised(write_fit, value), (InvalidPaper, None))
        for value in all_values():
            self.assertEqual(raised(write_fit, value), (InvalidPaper, None))
            self.assertEqual(raised(write_fit, (value, 6)), (InvalidPaper, None))
            self.assertEqual(raised(write_fit, (value, PACKED)), (InvalidPaper, None))
        for value in not_packings():
            self.assertEqual(raised(write_fit, ("packed", value)), (InvalidPaper, None))
        for value in not_size_values():
            self.assertEqual(raised(write_fit, ("barred", value)), (InvalidPaper, None))

    def test_wrong_texts(self):
        for text in (
            "", "barred", "barred ", "barred 0", "barred 06", "barred -6", "barred  6", "barred 6 ", " barred 6", "Barred 6", "barred six", "packed ",
            " packed", "Packed", "packing", "lot", f"barred {TOO_LONG}", "barred 6 6", "nothing", "barred 6\r", "room 10 many 2 hold nothing",
        ):
            self.assertEqual(raised(read_fit, text), (ParseError, 0))
            self.assertEqual(raised(read_fit, text + "\nroom 10 many 2 hold nothing"), (ParseError, 0))
        for text in ("barred 6\n", "barred 6\nbarred 6", "barred 6\n\n", "barred 6\nroom 10 many 2 hold nothing"):
            self.assertEqual(raised(read_fit, text), (ParseError, 1))
        for line in BAD_LINES:
            self.assertEqual(raised(read_fit, f"packed\n{line}"), (ParseError, 1))
            self.assertEqual(raised(read_fit, f"packed\nroom 3 many 1 hold nothing\n{line}\nx"), (ParseError, 2))
        self.assertEqual(raised(read_fit, "packed\n"), (ParseError, 1))
        self.assertEqual(raised(read_fit, "packed\nroom 3 many 1 hold 2 many 2"), (InvalidPacking, None))
        self.assertEqual(raised(read_fit, "packed\nroom 3 many 1 hold 2 many 2\n"), (ParseError, 2))
        for value in all_values():
            told = (ParseError, 0) if isinstance(value, str) else (ParseError, None)
            self.assertEqual(raised(read_fit, value), told)


class TestBriefTexts(unittest.TestCase):
    def test_texts_and_back(self):
        for text, lot in BRIEFS.items():
            self.assertEqual((brief(lot), lot_in(text)), (text, lot))

    def test_texts_that_are_none(self):
        for text in (
            "", " ", "nothing ", " nothing", "Nothing", "nothing, 1 many 1", "1 many 1, nothing", "1 many 5, 2 many 3", "1 many 1, 1 many 1", "1 many",
            "2 many 1, 1 many 1, 1 many 1", "1 many 0", "0 many 1", "01 many 1", "1 many 01", "1  many 1", "1 many 1 ", " 1 many 1", "1 many 1,",
            "2 many 1,1 many 1", "2 many 1,  1 many 1", "2 many 1, 1 many 1,", "2 many 1 1 many 1", "1 Many 1", "-1 many 1", "1 many 1\n", "one many 1",
            f"{TOO_LONG} many 1", f"1 many {TOO_LONG}", "1 many 1.", "size 1 many 1", "1_0 many 1", "none", ", ".join(f"{size} many 1" for size in range(13, 0, -1)),
        ):
            self.assertEqual(raised(lot_in, text), (ParseError, None))
        for value in all_values():
            self.assertEqual(raised(lot_in, value), (ParseError, None))

    def test_wrong_lots(self):
        for value in not_lots() + [PARCELS.counts]:
            self.assertEqual(raised(brief, value), (InvalidLot, None))


if __name__ == "__main__":
    unittest.main()
