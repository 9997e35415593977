"""Stage 17: the shell."""

import inspect
import unittest
from collections import Counter
from unittest import mock

from shelfroutes.check.histories import is_counterexample
from shelfroutes.errors import (InvalidOperation, InvalidStore, NothingToUndo, ParseError, ShelfError, TooMany, UnknownKey,
                                UnknownName)
from shelfroutes.run.engine import Engine
from shelfroutes.text.shell import Shell
from shelfroutes.text.texts import read_scheme, write_scheme
from tests import plain
from tests.draws import SIDES, draw_event, draw_query, draw_scheme, rng_of
from tests.dressed import draw_dressed
from tests.more_shops import LAZY_TEXT, SPLIT_TEXT, crowded
from tests.shop import SHOP_TEXT, lost, shop
from tests.values import LONGEST, TOO_LONG, everything

LOST_TEXT = write_scheme(lost())


def opened(*lines, text=SHOP_TEXT):
    shell = Shell(text)
    for line in lines:
        shell(line)
    return shell


def keys_of(result):
    return " ".join("gap" if key is None else str(key) for key in result)


def order(result):
    return [-1 if key is None else key for key in result]


def line_of(event):
    """The command that does an event."""
    parts = event[:2] + event[2] if event[0] == "add" else event
    return " ".join(str(part) for part in parts)


def event_of(line):
    words = line.split(" ")
    if words[0] == "add":
        return ("add", words[1], tuple(int(word) for word in words[2:]))
    if words[0] == "remove":
        return ("remove", int(words[1]))
    return ("switch", words[1]) if words[0] == "switch" else (words[0], words[1], int(words[2]))


def told_changes(before, after):
    """The lines for what differs between two outputs, as Counters."""
    results = sorted({result for result in list(before) + list(after) if before[result] != after[result]}, key=order)
    return [("+ " if after[result] > before[result] else "- ") + keys_of(result) for result in results]


def told_text(lines):
    return "\n".join(lines) or "nothing"


class Interface(unittest.TestCase):
    def test_where_all_is_defined(self):
        self.assertEqual(Shell.__module__, "shelfroutes.text.shell")
        for name in ("__init__", "__call__", "run", "engine"):
            self.assertIn(name, vars(Shell))
        self.assertEqual(list(inspect.signature(Shell).parameters), ["text"])

    def test_example(self):
        shell = Shell(write_scheme(shop()))
        self.assertEqual([shell("add cus 1 5"), shell("add ord 1 7"), shell("switch wide"), shell("add item 7"),
                          shell("held sco")], ["row 1", "row 2", "nothing", "row 3\n+ 1 3 2", "1 2 x 1"])
        self.assertEqual([shell("add block 5"), shell("remove 9"), shell("undo"), shell("switch fast"), shell("add cus 1")],
                         ["row 4\n- 1 3 2", "none 9", "+ 1 3 2", "unknown fast", "row"])

    def test_texts(self):
        for value in everything() + [SHOP_TEXT + "\n", "", "first flat"]:
            with self.assertRaises(ShelfError) as caught:
                Shell(value)
            with self.assertRaises(type(caught.exception)):
                read_scheme(value)
        with self.assertRaises(ParseError) as caught:
            Shell(None)
        self.assertIsNone(caught.exception.line)
        with self.assertRaises(ParseError) as caught:
            Shell(SHOP_TEXT[:-len("\nfirst flat")])
        self.assertEqual(caught.exception.line, SHOP_TEXT.count("\n"))
        with self.assertRaises(InvalidStore):
            Shell(SHOP_TEXT.replace("counter nb b\n", ""))
        with self.assertRaises(UnknownName):
            Shell(SHOP_TEXT.replace("first flat", "first late"))

    def test_engine(self):
        shell = opened("add cus 1 5", "add ord 1 7")
        engine = shell.engine()
        self.assertEqual((type(engine), len(engine), engine.scheme == shop()), (Engine, 2, True))
        engine.add("item", (7,))
        self.assertEqual((len(shell.engine()), shell("add item 7"), len(engine)), (2, "row 3\n+ 1 3 2", 3))
        self.assertTrue(engine == shell.engine())
        self.assertEqual(shell.run("output"), shell("output"))


class Commands(unittest.TestCase):
    def test_output_and_rows(self):
        shell = opened()
        self.assertEqual([shell(word) for word in ("output", "rows", "held sc", "undo", "redo")],
                         ["nothing", "nothing", "nothing", "undo 1", "undo 1"])
        for line in ("add cus 1 5", "add ord 1 7", "add ord 1 -7", "add item 7", "add ord 1 7", "remove 3"):
            shell(line)
        self.assertEqual(shell("output"), "1 4 2\n1 4 5")
        self.assertEqual(shell("rows"), "1 cus 1 5\n2 ord 1 7\n4 item 7\n5 ord 1 7")
        self.assertEqual([shell("held so"), shell("held sb"), shell("held sco"), shell("held nb")],
                         ["2 x 1\n5 x 1", "nothing", "nothing", "unknown nb"])
        self.assertEqual([shell("switch wide"), shell("held sco")], ["nothing", "1 2 x 1\n1 5 x 1"])

    def test_changes(self):
        shell = opened("add cus 1 5", "add ord 1 7", "add ord 1 7", "add item 7")
        self.assertEqual(shell("remove 1"), "- 1 4 2\n- 1 4 3")
        self.assertEqual([shell("undo"), shell("undo"), shell("redo"), shell("redo"), shell("redo")],
                         ["+ 1 4 2\n+ 1 4 3", "- 1 4 2\n- 1 4 3", "+ 1 4 2\n+ 1 4 3", "- 1 4 2\n- 1 4 3", "undo 1"])

    def test_gaps(self):
        text = ("table cus code\ntable tag code\nrole c core cus\nrole t optional tag\ntest c.code = t.code\ncounter nt t\n"
                "store sc c\nstore st t\nplan p\nadd c: recount nt st\nadd c: update sc, join st, emit\nadd c: none nt, emit\n"
                "add t: update st, join sc, emit\nadd t: join sc, count nt, emit\nremove c: update sc, join st, emit\n"
                "remove c: none nt, emit\nremove t: update st, join sc, emit\nremove t: join sc, count nt, emit\nfirst p")
        shell = opened(text=text)
        self.assertEqual([shell("add cus 1"), shell("add tag 1"), shell("add tag 1"), shell("add cus 1"), shell("output")],
                         ["row 1\n+ 1 gap", "row 2\n- 1 gap\n+ 1 2", "row 3\n+ 1 3", "row 4\n+ 4 2\n+ 4 3", "1 2\n1 3\n4 2\n4 3"])
        self.assertEqual([shell("remove 2"), shell("remove 3"), shell("output"), shell("check")],
                         ["- 1 2\n- 4 2", "+ 1 gap\n- 1 3\n+ 4 gap\n- 4 3", "1 gap\n4 gap", "right"])

    def test_lazy_stores(self):
        shell = opened("add cus 1", "add item 7", "add ord 1 7", "add zone 1", "switch lazy", text=LAZY_TEXT)
        self.assertEqual([shell("held lcio"), shell("load lcio 7"), shell("held lcio"), shell("evict lcio 7"), shell("held lcio"),
                          shell("undo"), shell("held lcio"), shell("load lcio -8"), shell("load sco 7"), shell("load x 7")],
                         ["nothing", "nothing", "1 2 3 x 1", "nothing", "nothing", "nothing", "1 2 3 x 1", "nothing",
                          "unknown sco", "unknown x"])
        self.assertEqual(shell.engine().loaded("lcio"), (-8, 7))

    def test_errors(self):
        shell = opened("add cus 1 5", text=SHOP_TEXT.replace("counter nb b", "lasting cus\ncounter nb b").replace(
            "remove c: update sc, none nb, join so, join si, emit\n", "").replace(
            "remove c: update sc, join so, update sco, none nb, join si, emit\n", ""))
        before = shell.engine()
        for line, told in (("remove 1", "operation"), ("remove 2", "none 2"), ("remove -1", "none -1"), ("remove 0", "none 0"),
                           ("switch flat", "operation"), ("switch x", "unknown x"), ("add x 1", "unknown x"), ("add x", "unknown x"),
                           ("add cus", "row"), ("add cus 1 2 3", "row"), ("add cus 1 2 3 4 5 6 7 8", "row"), ("held x", "unknown x"),
                           ("load sc 1", "unknown sc"), ("evict sc 1", "unknown sc"), ("redo", "undo 1"),
                           (f"remove {LONGEST}", f"none {LONGEST}"), (f"remove -{LONGEST}", f"none -{LONGEST}")):
            self.assertEqual(shell(line), told)
            self.assertTrue(shell.engine() == before and shell.engine().log == before.log)

    def test_too_many(self):
        shell = opened(*["add item 1"] * 100)
        self.assertEqual([shell("add item 1"), shell("add cus 1 1"), shell("add item"), shell("rows").count("\n")],
                         ["many 100", "many 100", "row", 99])
        text = ("table k x\ntable m x\nrole c core k\nrole d core m\nstore sc c\nstore scd c d\nstore sd d\nplan p\nadd c: update sc\n"
                "add d: update sd\nplan q\nswitch p q: fill scd sc sd\nfirst p")
        shell = opened(*["add k 1"] * 46 + ["add m 1"] * 44, text=text)
        self.assertEqual([shell("switch q"), shell("remove 1"), shell("switch q")], ["many 2000", "nothing", "many 2000"])

    def test_check(self):
        self.assertEqual([opened("check")("check"), Shell(SPLIT_TEXT)("check"), Shell(LAZY_TEXT)("check")], ["right"] * 3)
        shell = opened("add cus 1 5", text=LOST_TEXT)
        before = shell.engine()
        lines = shell("check").split("\n")
        self.assertEqual(lines[0], "wrong")
        events = tuple(event_of(line) for line in lines[1:])
        self.assertIs(is_counterexample(lost(), ("counterexample", events)), True)
        other = Shell(LOST_TEXT)
        for line, event in zip(lines[1:], events):
            self.assertEqual(line, line_of(event))
            self.assertNotEqual(other(line), "what")
        self.assertIs(other.engine().is_right(), False)
        self.assertTrue(shell.engine() == before and shell.engine().log == before.log)
        self.assertEqual(shell("undo"), "nothing")
        self.assertEqual(shell("check"), "\n".join(lines))
        self.assertEqual(shell("redo"), "nothing")
        self.assertEqual(Shell(write_scheme(crowded()))("check"), "many 20000")
        with mock.patch("shelfroutes.check.invariants.MAX_SNAPSHOTS", 5):
            self.assertEqual([Shell(LOST_TEXT)("check"), Shell(SHOP_TEXT)("check")], ["many 5", "right"])

    def test_other_values(self):
        shell = opened("add cus 1 5")
        before = shell.engine()
        wrong = ["", " ", "add", "add ", "add  cus 1 5", " add cus 1 5", "add cus 1 5 ", "add cus 1  5", "add cus 1 5\n", "Add cus 1 5",
                 "add cus 01 5", "add cus +1 5", "add cus -0 5", "add cus -01 5", "add cus 1.0 5", "add cus 1_0 5", "add cus - 5",
                 "add cus -", "add cus one 5", "add Cus 1 5", "add customers 1", "add cus1 1", "add cus 1\t5", "add 1 5", "add cus --1 5",
                 f"add cus {TOO_LONG} 5", f"add cus -{TOO_LONG} 5", f"remove {TOO_LONG}", f"load sco {TOO_LONG}", "remove", "remove 1 2",
                 "remove x", "remove 01", "remove 1 ", "switch", "switch flat wide", "switch 1", "switch Wide", "load sco", "load sco 1 2",
                 "load 1 sco", "evict sco", "evict sco x", "undo 1", "redo 1", "undo ", "output 1", "output ", "rows 1", "held", "held sco 1",
                 "held 1", "check 1", "check flat", "checks", "what", "right", "add cus 1,5", "add cus 1 5;", "add\ncus\n1", "gap",
                 "add cus 1\u0661 5", "remove \u0661"]
        for value in wrong + everything():
            if value not in ("", None) and isinstance(value, str) and value in ("undo", "redo", "rows", "output", "check"):
                continue
            self.assertEqual(shell(value), "what", repr(value))
            self.assertEqual(shell.run(value), "what")
        self.assertTrue(shell.engine() == before and shell.engine().log == before.log)
        longest = f"add cus {LONGEST} -{LONGEST}"
        self.assertEqual([shell(longest), shell("rows").split("\n")[1]], ["row 2", f"2 cus {LONGEST} -{LONGEST}"])


class Drawn(unittest.TestCase):
    """Along drawn commands, beside an engine and a second reckoning of the same scheme."""

    def draw_command(self, rng, scheme, engine):
        word = rng.choice(("event", "event", "event", "event", "undo", "redo", "output", "rows", "held", "wrong"))
        if word == "event":
            return line_of(draw_event(rng, scheme, engine.plan, engine.world.rows, most=1))
        if word == "held":
            return "held " + rng.choice(sorted(scheme.stores))
        if word == "wrong":
            return rng.choice(("", "held", "switch none", "remove 77", "add none 1", "load none 5", "undo 2", "add", "rows "))
        return word

    def told(self, engine, line):
        """What the shell has to say, by an engine that does the same."""
        words = line.split(" ")
        before = Counter(dict(engine.output.pairs()))
        head = []
        try:
            if words[0] in ("undo", "redo"):
                (engine.undo if words[0] == "undo" else engine.redo)()
            elif words[0] == "output":
                return told_text([keys_of(result) for result in engine.output.results()])
            elif words[0] == "rows":
                rows = engine.world.rows
                return told_text([" ".join(map(str, (key, rows[key][0]) + rows[key][1])) for key in rows])
            elif words[0] == "held":
                return told_text([f"{keys_of(match)} x {many}" for match, many in engine.held(words[1]).pairs()])
            else:
                engine(event_of(line))
                head = [f"row {len(engine.ever_placed())}"] if words[0] == "add" else []
        except UnknownName as error:
            return f"unknown {error.name}"
        except UnknownKey as error:
            return f"none {error.key}"
        except NothingToUndo as error:
            return f"undo {error.many}"
        except InvalidOperation:
            return "operation"
        except TooMany as error:
            return f"many {error.limit}"
        return told_text(head + told_changes(before, Counter(dict(engine.output.pairs()))))

    def test_drawn_commands(self):
        seen = Counter()
        for seed in range(90):
            rng = rng_of("shell", seed)
            query = draw_query(rng, most_core=3, sides=SIDES[seed % 8])
            scheme = draw_scheme(rng, query) if seed % 3 == 0 else draw_dressed(rng, lambda: query, spoilt=seed % 2)
            shell, engine = Shell(write_scheme(scheme)), Engine(scheme)
            for _ in range(30):
                line = self.draw_command(rng, scheme, engine)
                is_wrong = line in ("", "held", "undo 2", "add", "rows ")
                told = "what" if is_wrong else self.told(engine, line)
                self.assertEqual(rng.choice((shell, shell.run))(line), told, line)
                self.assertTrue(shell.engine() == engine)
                seen[told.split("\n")[0].split(" ")[0]] += 1
                seen["lines"] += told.count("\n")
            self.assertEqual(shell.engine().log, engine.log)
        for word in ("row", "what", "nothing", "undo", "none", "unknown", "+", "-"):
            self.assertGreater(seen[word], 10, word)
        self.assertGreater(seen["lines"], 200)

    def test_outputs_of_right_schemes(self):
        """The lines add up to the results, told by a second reckoning."""
        results = 0
        for seed in range(40):
            rng = rng_of("added up", seed)
            scheme = draw_dressed(rng, lambda: draw_query(rng, most_core=2, sides=SIDES[seed % 8]), plans=2)
            shell = Shell(write_scheme(scheme))
            if shell("check") != "right":
                continue
            output = set()
            for _ in range(20):
                engine = shell.engine()
                for line in shell(line_of(draw_event(rng, scheme, engine.plan, engine.world.rows, most=1))).split("\n"):
                    if line[:2] == "+ ":
                        self.assertNotIn(line[2:], output)
                        output.add(line[2:])
                    elif line[:2] == "- ":
                        output.remove(line[2:])
                told = {keys_of(result) for result in plain.results(scheme.query, shell.engine().world.rows)}
                self.assertEqual(output, told)
                results += len(told)
        self.assertGreater(results, 300)


if __name__ == "__main__":
    unittest.main()
