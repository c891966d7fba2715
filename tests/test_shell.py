"""Stage 16: a shell, with the promises 0.1 to 0.6, 16.2 and 16.3."""

import random
import unittest

from chainpacks.errors import InvalidOperation, ParseError
from chainpacks.text.shell import Shell
from chainpacks.text.texts import brief
from chainpacks.things.lots import Lot
from chainpacks.things.stores import Store
from chainpacks.use.bench import Bench
from wrong_values import FAR_TOO_LONG, LONGEST, TOO_LONG, all_values, not_benches, raised

SHELVES = Store((10, 2), (7, 3))
PARCELS = "6 many 4, 2 many 3, 1 many 5"
COMMANDS = [
    "put cid 1 many 1", "add ann 1 many 1", "take ann 1 many 1", "deliver ann 6 many 1", "cancel ann", "promise 6 many 1",
    "rooms 10 many 2, 7 many 4", "undo 1", "most cid 6 many 9", "orders", "order ann", "whole", "promised", "store", "room 6", "need 7",
    "fits 6 many 1", "tight",
]
BAD_LOTS = [
    "", " ", "nothing ", " nothing", "Nothing", "none", "1 many", "many 1", "1", "1 many 0", "0 many 1", "01 many 1", "1 many 01", "-1 many 1", "1  many 1",
    "1 many 1 ", " 1 many 1", "1 many 1,", "1 many 5, 2 many 3", "1 many 1, 1 many 1", "2 many 1,1 many 1", "2 many 1 1 many 1", "x many 1", "1 many x",
    "1 Many 1", "nothing, 1 many 1", "nothing nothing", f"{TOO_LONG} many 1", f"1 many {TOO_LONG}", "1 many 1\n", "1\tmany 1", "+1 many 1", "1_0 many 1",
    ", ".join(f"{size} many 1" for size in range(13, 0, -1)),
]
BAD_NAMES = ["", "Ann", "ninelette", "a1", "an-n", "ANN", "ann,", "1", "a\n", "\u00e4"]


def shell_of(*commands):
    """A shell of a new bench, with some commands that have been done."""
    shell = Shell(Bench((1, 2, 6), SHELVES))
    for command in commands:
        assert shell(command) == "ok", command
    return shell


def filled_shell():
    """A shell with two orders and a promise."""
    return shell_of("put bob 2 many 1", "put ann 6 many 2, 2 many 3, 1 many 5", "add bob 1 many 1", "promise 6 many 1, 1 many 1")


class TestExamples(unittest.TestCase):
    def test_all_examples(self):
        shell = Shell(Bench((1, 2, 6), SHELVES))
        told = [
            shell("put ann 6 many 4, 2 many 3, 1 many 5"), shell("room 6"), shell("fits 6 many 2"), shell("most bob 6 many 1, 2 many 2"),
            shell("tight"),
        ]
        self.assertEqual(told, ["ok", "1", "barred 6", "2 many 2", "1 2 6"])
        told = [
            shell("undo 1"), shell("orders"), shell("add bob 1 many 1"), shell("rooms 7 many 3"), shell("need 7"), shell("whole"), shell("Orders"),
            str(shell),
        ]
        self.assertEqual(told, ["ok", "ann", "name", "barred 6", "5", PARCELS, "what", "shell of bench of 1 orders, 12 things"])


class TestCommands(unittest.TestCase):
    """Each row of the table, with each answer."""

    def test_changes_against_the_bench(self):
        shell, bench = shell_of(), Bench((1, 2, 6), SHELVES)
        for command, change in (
            ("put ann 6 many 2, 1 many 3", lambda: bench.put("ann", Lot({1: 3, 6: 2}))), ("put bob nothing", lambda: bench.put("bob", Lot())),
            ("add bob 2 many 4", lambda: bench.add("bob", Lot({2: 4}))), ("take ann 1 many 1", lambda: bench.take("ann", Lot({1: 1}))),
            ("promise 6 many 1, 1 many 2", lambda: bench.promise_of(Lot({1: 2, 6: 1}))), ("deliver bob 6 many 1", lambda: bench.deliver("bob", Lot({6: 1}))),
            ("rooms 7 many 3, 10 many 2, 10 many 1", lambda: bench.move_to(Store((7, 3), (10, 3)))), ("cancel ann", lambda: bench.cancel("ann")),
            ("put abcdefgh 1 many 1", lambda: bench.put("abcdefgh", Lot({1: 1}))), ("undo 2", lambda: bench.undo(many=2)), ("undo 0", lambda: bench.undo(many=0)),
            ("promise nothing", lambda: bench.promise_of(Lot())), ("undo 1", lambda: bench.undo()),
        ):
            self.assertEqual(shell(command), "ok", command)
            change()
            self.assertEqual((shell.bench(), str(shell)), (bench, f"shell of {bench}"))
        self.assertEqual(shell("undo 7"), "ok")
        self.assertEqual((shell("orders"), shell("undo 1")), ("none", "nothing"))
        self.assertEqual(shell("rooms nothing"), "ok")
        self.assertEqual((shell("store"), shell.bench().store), ("nothing", Store()))

    def test_answers(self):
        shell = filled_shell()
        for command, answer in (
            ("orders", "ann bob"), ("order ann", "6 many 2, 2 many 3, 1 many 5"), ("order bob", "2 many 1, 1 many 1"), ("whole", "6 many 2, 2 many 4, 1 many 6"),
            ("promised", "6 many 1, 1 many 1"), ("store", "10 many 2, 7 many 3"), ("room 1", "8"), ("room 2", "4"), ("room 6", "1"), ("need 7", "5"),
            ("need 33", "1"), ("need 5", "barred 6"), ("need 6", "6"), ("tight", "none"), ("fits nothing", "yes"), ("fits 6 many 1", "yes"),
            ("fits 6 many 2", "barred 1"), ("fits 6 many 3", "barred 6"), ("fits 6 many 1, 2 many 1", "yes"), ("fits 2 many 7", "barred 2"), ("fits 1 many 8", "yes"),
            ("fits 1 many 9", "barred 1"), (f"fits 1 many {LONGEST}", "barred 1"),
        ):
            self.assertEqual(shell(command), answer, command)
            self.assertEqual(shell.bench(), filled_shell().bench())
        self.assertEqual((shell("most cid 6 many 3, 1 many 9"), shell("order cid"), shell("tight")), ("6 many 2, 1 many 7", "6 many 1, 1 many 2", "1 2 6"))
        self.assertEqual((shell("most dan nothing"), shell("most eve 2 many 1"), shell("order eve")), ("nothing", "2 many 1", "nothing"))
        self.assertEqual((shell("undo 3"), shell("tight"), shell("orders")), ("ok", "none", "ann bob"))
        empty = shell_of()
        for command, answer in (("orders", "none"), ("whole", "nothing"), ("promised", "nothing"), ("tight", "none"), ("need 1", "0"), ("room 6", "5")):
            self.assertEqual(empty(command), answer)
        full = Shell(Bench((2, 6), Store((1, 5))))
        self.assertEqual([full(command) for command in ("tight", "room 6", "fits 2 many 1", "store")], ["2 6", "0", "barred 2", "1 many 5"])

    def test_errors(self):
        shell = filled_shell()
        long = "9" * 7900
        forty_one = ", ".join(f"{1 + at % 2} many {at + 1}" for at in range(41))
        for command, answer in (
            ("add cid 1 many 1", "name"), ("take cid nothing", "name"), ("deliver cid 3 many 1", "name"), ("cancel cid", "name"), ("order cid", "name"),
            ("put cid 3 many 1", "lot"), ("add ann 12 many 1", "lot"), ("take ann 4 many 1", "lot"), ("deliver ann 6 many 1, 3 many 9", "lot"),
            ("promise 5 many 1", "lot"), ("most cid 3 many 1", "lot"), ("fits 3 many 1", "lot"), ("fits 12 many 9, 6 many 99", "lot"),
            (f"rooms {forty_one}", "store"), ("put ann 1 many 1", "operation"), ("most ann nothing", "operation"), ("take ann 6 many 3", "operation"),
            ("take bob 6 many 1", "operation"), ("room 3", "number"), ("room 12", "number"), (f"room {TOO_LONG}", "number"), (f"need {TOO_LONG}", "number"),
            (f"undo {TOO_LONG}", "number"), (f"undo {FAR_TOO_LONG}", "number"), (f"undo {long}", "number"), (f"room {long}", "number"), (f"need {long}", "number"),
            ("undo 5", "nothing"), (f"undo {LONGEST}", "nothing"), (f"room {LONGEST}", "number"), (f"need {LONGEST}", "1"), ("need 5", "barred 6"),
            ("put cid 6 many 3", "barred 6"), ("put cid 1 many 9", "barred 1"), ("add ann 2 many 7", "barred 2"), ("deliver ann 6 many 4", "barred 6"),
            ("promise 6 many 4", "barred 6"), ("rooms 6 many 2", "barred 6"), ("rooms nothing", "barred 6"), ("rooms 7 many 3, 1 many 3", "barred 2"),
        ):
            self.assertEqual(shell(command), answer, command[:60])
            self.assertEqual(shell.bench(), filled_shell().bench())
        self.assertEqual((shell("undo 4"), shell("undo 1")), ("ok", "nothing"))

    def test_too_many_orders(self):
        shell = Shell(Bench((1,), Store((1, 1))))
        for first in "abcdefghij":
            for second in "abcdefghij":
                self.assertEqual(shell(f"put {first}{second} nothing"), "ok")
        self.assertEqual([shell("put x nothing"), shell("most x nothing"), shell("put x 1 many 9"), shell("put x 2 many 1"), shell("put aa nothing")],
                         ["many", "many", "many", "lot", "operation"])
        self.assertEqual(len(shell("orders").split(" ")), 100)

    def test_rooms_of_many_runs(self):
        shell = shell_of()
        runs = ", ".join(f"{1 + at % 2} many {at + 1}" for at in range(40))
        self.assertEqual((shell(f"rooms {runs}"), shell("store")), ("ok", runs))
        # Runs become fewer if neighbours have equal rooms.
        equal = ", ".join(["7 many 1"] * 60)
        self.assertEqual((shell(f"rooms {equal}"), shell("store")), ("ok", "7 many 60"))
        self.assertEqual((shell(f"rooms {LONGEST} many {LONGEST}"), shell("store")), ("ok", f"{LONGEST} many {LONGEST}"))
        self.assertEqual(shell("room 1"), str(LONGEST ** 2))

    def test_great_numbers(self):
        for figures in (20, 100, 199):
            great = 10 ** (figures - 1)
            shell = Shell(Bench((1, great), Store((3 * great + 1, great))))
            self.assertEqual(shell(f"put ann {great} many {2 * great}"), "ok")
            self.assertEqual([shell(f"room {great}"), shell("room 1"), shell(f"need {2 * great}")], [str(great), str(great ** 2 + great), str(great)])
            self.assertEqual(shell(f"most bob {great} many {2 * great}, 1 many 5"), f"{great} many {great}")
            self.assertEqual([shell("whole"), shell(f"fits {great} many 1"), shell("tight")], [f"{great} many {3 * great}, 1 many 5", f"barred {great}", str(great)])
            self.assertEqual(shell(f"need {great - 1}"), f"barred {great}")


class TestStringsOfNoForm(unittest.TestCase):
    def check(self, command):
        shell = filled_shell()
        self.assertEqual(shell(command), "what", command[:60])
        self.assertEqual(shell.bench(), filled_shell().bench())

    def test_bent_commands(self):
        for command in COMMANDS:
            self.assertNotEqual(filled_shell()(command), "what")
            for bent in (
                command + " ", " " + command, command.capitalize(), command.upper(), command + "\n", "\n" + command, command.replace(" ", "  ", 1) + " ",
                command.replace(" ", "\t") + "\t", command + " x", command + ".", command + ",", "x" + command, command[1:], command + " nothing nothing",
            ):
                self.check(bent)
            if " " in command:
                word = command.split(" ")[0]
                for bent in (command.replace(" ", "  ", 1), command.replace(" ", "", 1), word, word + " ", command.replace(" ", "\n", 1), command.replace(" ", "\t", 1)):
                    self.check(bent)

    def test_nothing_and_other_words(self):
        for command in (
            "", " ", "\n", "what", "ok", "none", "nothing", "help", "name", "twin", "trial", "plan", "move nothing", "promise_of nothing", "put_most cid nothing",
            "undo", "bench", "x" * 8000, "0", "put", "orders ann", "whole ann", "store 1", "tight 6", "promised nothing", "deliver", "order", "fits", "plan ",
        ):
            self.check(command)
        for value in all_values():
            if isinstance(value, str):
                self.check(value)

    def test_lots(self):
        for text in BAD_LOTS:
            for word in ("put cid", "add ann", "take ann", "deliver ann", "most cid", "promise", "fits"):
                self.check(f"{word} {text}")

    def test_runs(self):
        for text in BAD_LOTS:
            if text not in ("1 many 5, 2 many 3", "1 many 1, 1 many 1", ", ".join(f"{size} many 1" for size in range(13, 0, -1))):
                self.check(f"rooms {text}")
        shell = shell_of()
        self.assertEqual([shell("rooms 1 many 5, 2 many 3"), shell("store"), shell("rooms 1 many 1, 1 many 1"), shell("store")],
                         ["ok", "1 many 5, 2 many 3", "ok", "1 many 2"])

    def test_names(self):
        for name in BAD_NAMES:
            for word in ("cancel", "order"):
                self.check(f"{word} {name}")
            for word in ("put", "add", "take", "deliver", "most"):
                self.check(f"{word} {name} nothing")
                self.check(f"{word} {name} 3 many 1")

    def test_numbers(self):
        for word in ("undo", "room", "need"):
            for text in (
                "", " ", "01", "00", "-1", "+1", "1 ", " 1", "1.0", "x", "1x", "one", "1 1", "1_0", "1,0", "0x1", "1\n", "-0", "\u0661", "0" * 300, "0" + "1" * 250,
                "True", "None", "1e3",
            ):
                self.check(f"{word} {text}")
        self.check("room 0")
        self.check("need 0")
        self.assertEqual(filled_shell()("undo 0"), "ok")


class TestShells(unittest.TestCase):
    def test_a_twin_of_the_bench(self):
        bench = Bench((1, 2, 6), SHELVES)
        bench.put("ann", Lot({1: 1}))
        shell = Shell(bench)
        shell("put bob 6 many 1")
        bench.put("cid", Lot({2: 1}))
        self.assertEqual((list(bench), shell("orders")), (["ann", "cid"], "ann bob"))
        told = shell.bench()
        told.cancel("ann")
        self.assertEqual((shell("orders"), shell.bench() is told), ("ann bob", False))
        # The changes that the bench can take back come with it.
        self.assertEqual((shell("undo 2"), shell("orders"), list(bench)), ("ok", "none", ["ann", "cid"]))
        twin = Shell(bench).bench()
        twin.undo(many=2)
        self.assertEqual((list(twin), list(bench)), ([], ["ann", "cid"]))

    def test_wrong_values(self):
        for value in not_benches() + [shell_of()]:
            self.assertEqual(raised(Shell, value), (InvalidOperation, None))
        shell = filled_shell()
        for value in all_values():
            if not isinstance(value, str):
                self.assertEqual(raised(shell, value), (ParseError, None))
        self.assertEqual(shell.bench(), filled_shell().bench())

    def test_histories(self):
        for seed in range(8):
            source, shell, bench = random.Random(seed), shell_of(), Bench((1, 2, 6), SHELVES)
            for _ in range(60):
                name = source.choice(("a", "bob", "cid"))
                lot = Lot({size: source.randrange(1, 4) for size in source.sample((1, 2, 6), source.randrange(3))})
                word = source.choice(("put", "add", "take", "deliver", "cancel", "promise", "undo", "most"))
                call, command = {
                    "cancel": (lambda: bench.cancel(name), f"cancel {name}"), "promise": (lambda: bench.promise_of(lot), f"promise {brief(lot)}"),
                    "undo": (lambda: bench.undo(many=2), "undo 2"), "most": (lambda: bench.put_most(name, lot), f"most {name} {brief(lot)}"),
                }.get(word, (lambda: getattr(bench, word)(name, lot), f"{word} {name} {brief(lot)}"))
                answer, told = shell(command), raised(call)
                self.assertIs(answer in ("name", "operation", "nothing", "barred 6", "barred 2", "barred 1") and not (word == "most" and told is None),
                              told is not None)
                self.assertEqual(shell.bench(), bench)
                self.assertEqual(shell("orders"), " ".join(bench) or "none")
                self.assertEqual(shell("tight"), " ".join(str(size) for size in bench.tight) or "none")


if __name__ == "__main__":
    unittest.main()
