"""Texts, written and read."""

import random
import unittest

from joinlags.errors import BadLine
from joinlags.tables import table_of
from joinlags.texts import (deaths_in, deaths_text, drops_in, drops_text, ends_in, ends_text, net_in, net_text, part_in,
                            part_text, rows_in, rows_text, steps_in, steps_text)
from checks import check_call, check_error
from samples import (ALONE, BARE, CYCLE, DOUBLE, FORK, HUGE, TWO_GROUPS, WIDE, calm_net, listed, random_deaths,
                     random_drops, random_net, small_nets)

NETS = (ALONE, BARE, CYCLE, DOUBLE, FORK, TWO_GROUPS, WIDE)
FORK_TEXT = "a d s\np: s > a 3 3\nq: a > d 3 3\nr: s > d 4 1"
GREAT = 10 ** 60 - 1
# No line of any text.
WRONG = (" ", "  ", "\t", "\r", "-", "+", ":", ": 1", "a:", "A: 1", "a : 1", "a:1", "a:  1", "a: 1 ", " a: 1", "a: 1\t",
         "a: 01", "a: -1", "a: +1", "a: 1.0", "a: x", "a: \u0661", "a: \u00b2", "\u00e4: 1", "a: 1 1 1", "a: 1_0", "a; 1", "a.",
         "a: None", "a: " + "1" * 61, "a: 1\x00", "a: 1\x0b", "a\n: 1")


class TextTest(unittest.TestCase):

    def check_bad(self, function, number, *texts):
        for text in texts:
            check_error(self, BadLine, {"number": number}, lambda: function(text))

    def check_lines(self, function, text, begin=0):
        """Each line spoilt in turn is told; what stands ahead of it is right."""
        lines = text.split("\n")
        for place in range(begin, len(lines)):
            line = lines[place]
            for wrong in ("", " " + line, line + " ", line.replace(" ", "  ", 1) if " " in line else line + "!",
                          line.upper() if line != line.upper() else line + "!", line + "\t", "!" + line, line + " x.X"):
                for behind in (lines[place + 1:], [""], ["!", "?"]):
                    self.check_bad(function, place, "\n".join(lines[:place] + [wrong] + behind))
        self.check_bad(function, len(lines), text + "\n", text + "\n ", text + "\n!", text + "\n\n")


class NetTest(TextTest):

    def test_nets(self):
        self.assertEqual(net_text(FORK), FORK_TEXT)
        self.assertEqual((net_text(ALONE), net_text(BARE)), ("z", "a b"))
        source = random.Random(501)
        nets = list(NETS) + small_nets(source, 40, 8, 9, 40) + [calm_net(source, 40, 60, HUGE)]
        nets.append((("a", "a.", "a.0", "a0"), (("a..0", "a0", "a.", GREAT, GREAT), ("a.b", "a", "a.0", GREAT, 1))))
        for net in nets:
            self.assertEqual(net_in(net_text(net)), net)
            self.assertEqual(net_text(listed(net)), net_text(net))
            self.assertEqual(net_text(net_in(net_text(net))), net_text(net))

    def test_lines(self):
        self.check_lines(net_in, FORK_TEXT)
        self.check_lines(net_in, "z")

    def test_workers(self):
        self.check_bad(net_in, 0, "", "\n", "\nz", "b a", "a a", "a b b", "a  b", "a b ", " a", "A", "0", "a,b", "a:", "a b:",
                       "a\tb", "\u00e4", "p: a > b 1 1", "doors: a", "a \u00e4", "a.B", "a-b", "\ufeffa", "a 1")

    def test_queues(self):
        for line in ("p: a > b 1 1", "p: b > a 9 9", "a: a > b 10 2", "p.: b > a 1000 1", f"p: a > b {GREAT} {GREAT}"):
            self.assertEqual(net_text(net_in("a b\n" + line)), "a b\n" + line)
        self.check_bad(net_in, 1, *["a b\n" + line for line in WRONG + (
            "", "p: a > b 1", "p: a > b 1 1 1", "p: a > b 1 2", "p: a > b 0 0", "p: a > b 1 0", "p: a > a 1 1",
            "p: a > c 1 1", "p: c > a 1 1", "p: a < b 1 1", "p: a >b 1 1", "p: a> b 1 1", "p a > b 1 1", "p:: a > b 1 1",
            "p: a > b 01 1", "p: a > b 1 01", "p: a > b -1 1", "p: a > b 1 -1", "p: a > b +1 1", "P: a > b 1 1",
            "0: a > b 1 1", ": a > b 1 1", "p: a > b 1  1", "p:  a > b 1 1", "p: a > b 1 1 ", " p: a > b 1 1",
            "p: A > b 1 1", "p: a > b x 1", "p: a > b 1 x", "p: a > b \u0661 1", f"p: a > b {GREAT + 1} 1",
            f"p: a > b {GREAT + 1} {GREAT + 1}", "p: a > b 1\t1", "p:a > b 1 1", "p : a > b 1 1", "p: a b 1 1",
            "p: a > b 1 .", "p: a > b . 1", "p: a > b 1 1\r", "p: a > b", "a b", "p: a \u003e\u003e b 1 1")])
        self.check_bad(net_in, 2, "a b\np: a > b 1 1\np: a > b 1 1", "a b\np: a > b 1 1\np: b > a 2 1",
                       "a b\nq: a > b 1 1\np: a > b 1 1", "a b\np.: a > b 1 1\np: a > b 1 1", "a b\np: a > b 1 1\n")
        self.check_bad(net_in, 3, FORK_TEXT.replace("r:", "q:"), FORK_TEXT.replace("r:", "a:"), FORK_TEXT.replace("q:", "r:"))
        self.check_bad(net_in, 2, FORK_TEXT.replace("q:", "p:"), FORK_TEXT.replace("q:", "a:"))

    def test_calls(self):
        check_call(self, net_text, net=FORK)
        check_call(self, net_in, text=FORK_TEXT)


class PartTest(TextTest):

    def test_parts(self):
        self.assertEqual(part_text((FORK, ("s", "d"))), "doors: s d\n" + FORK_TEXT)
        source = random.Random(502)
        for net in list(NETS) + small_nets(source, 30, 6, 6, 9):
            doors = tuple(source.sample(net[0], source.randint(1, len(net[0]))))
            text = part_text((net, doors))
            self.assertEqual(part_in(text), (net, doors))
            self.assertEqual(part_text(listed((net, doors))), text)
            self.assertEqual(part_text(part_in(text)), text)

    def test_lines(self):
        self.check_lines(part_in, "doors: s d\n" + FORK_TEXT)

    def test_doors(self):
        self.check_bad(part_in, 0, "", "\n", "doors:\nz", "doors: \nz", "doors:  z\nz", "doors: z \nz", " doors: z\nz", "doors z\nz",
                       "door: z\nz", "doors: z z\nz", "doors: a b a\na b", "Doors: z\nz", "doors: Z\nz", "doors : z\nz", "z",
                       "doors:z\nz", "doors: 1\nz", "doors: y y\nz", "doors: a:\na", "doors: a,b\na b", "z\ndoors: z", "doors:: z\nz",
                       "doors: z z", "doors: z\tz\nz", "doors: z z\n!")
        self.check_bad(part_in, 1, "doors: z", "doors: a b c", "doors: z\n", "doors: z\nz z", "doors: z\nb a", "doors: y\n!",
                       "doors: y\n", "doors: z\ndoors: z")
        self.check_bad(part_in, 2, "doors: y\nz", "doors: z y\nz", "doors: p\na b", "doors: z\nz\n", "doors: y\nz\n!", "doors: a b\na")
        self.check_bad(part_in, 5, "doors: x\n" + FORK_TEXT, "doors: a p\n" + FORK_TEXT, "doors: x\n" + FORK_TEXT + "\n")
        self.check_bad(part_in, 3, "doors: x\n" + FORK_TEXT.replace("q:", "Q:"))

    def test_calls(self):
        check_call(self, part_text, part=(FORK, ("s", "a")))
        check_call(self, part_in, text="doors: z\nz")


class DropsTest(TextTest):

    def test_drops(self):
        source = random.Random(503)
        for _ in range(200):
            net = random_net(source, 5, 6, 3)
            drops = random_drops(source, net, source.choice([3, 12]))
            text = drops_text(drops)
            self.assertEqual(drops_in(net, text), drops)
            self.assertEqual(drops_text(listed(drops)), text)
        self.assertEqual((drops_text(()), drops_in(FORK, "")), ("", ()))

    def test_ranges(self):
        for numbers, words in (((1,), "1"), ((1, 2), "1..2"), ((1, 2, 3), "1..3"), ((1, 3), "1 3"), ((1, 2, 4, 5), "1..2 4..5"),
                               ((1, 3, 4, 6), "1 3..4 6"), ((998, 999), "998..999"), ((9, 10, 11, 99, 100), "9..11 99..100"),
                               ((2, 4, 6, 8), "2 4 6 8"), (tuple(range(1, 1000)), "1..999"), ((7, 9, 10), "7 9..10")):
            drops = tuple(("p", number) for number in numbers)
            self.assertEqual(drops_text(drops), "p: " + words)
            self.assertEqual(drops_in(FORK, "p: " + words), drops)

    def test_lines(self):
        text = "p: 1..2 5\nq: 7\nr: 9..11 13"
        self.assertEqual(drops_text(drops_in(FORK, text)), text)
        self.check_lines(lambda lines: drops_in(FORK, lines), text)

    def test_wrong_lines(self):
        def read(text):
            return drops_in(FORK, text)
        self.check_bad(read, 0, *[line for line in WRONG if "\n" not in line])
        self.check_bad(read, 0, *["p: " + words for words in (
            "", "0", "00", "01", "1 1", "2 1", "1 2", "1..1", "2..1", "1...3", "1..", "..2", "..", "1.2", "1..2..3", "1..2 3",
            "1 2..3", "1..2 3..4", "1..3 3", "1..3 2", "1..3 3..5", "1..5 2..3", "5..6 1..2", "0..1", "1..02", "01..2", "1000",
            "999..1000", "1..1000", "-1", "-2..1", "+1", "1,3", "1 3 ", " 1", "1  3", "x", "1..x", "x..2", "1 x", "\u0661", "1-2",
            "1..2.", "1 ..2", "1.. 2", "3 1", "1 3 2", "1 4..5 3", "0 2", "1..2 4 5")])
        self.check_bad(read, 0, "p", "p:", "p: ", "p 1", "p 1:", "x: 1", "a: 1", "P: 1", "\n", "\np: 1", "p:1", "p : 1", ": 1", "pp: 1",
                       "p:: 1", "p: 1:")
        self.check_bad(read, 1, "p: 1\n", "p: 1\n\nq: 1", "p: 1\np: 2", "q: 1\np: 1", "r: 1\nq: 1", "p: 1\nx: 1", "p: 1\nq:",
                       "p: 1\nq: 1 2", "p: 1\n ", "q: 1\np: 1\nr: 1")
        self.check_bad(read, 2, "p: 1\nq: 1\nq: 3", "p: 1\nr: 1\nq: 3", "p: 1\nq: 1\n", "p: 1\nr: 2\np: 3")

    def test_calls(self):
        check_call(self, drops_text, drops=(("p", 1), ("p", 2), ("q", 9)))
        check_call(self, drops_in, net=FORK, text="p: 1..2\nq: 9")


class DeathsTest(TextTest):

    def test_deaths(self):
        source = random.Random(504)
        for _ in range(100):
            net = random_net(source, 8, 3, 3)
            deaths = random_deaths(source, net, source.choice([3, GREAT]))
            text = deaths_text(deaths)
            self.assertEqual(deaths_in(net, text), deaths)
            self.assertEqual(deaths_text(listed(deaths)), text)
        self.assertEqual((deaths_text(()), deaths_in(FORK, "")), ("", ()))
        self.assertEqual(deaths_text((("a", 0), ("s", GREAT))), f"a: 0\ns: {GREAT}")

    def test_wrong_lines(self):
        def read(text):
            return deaths_in(FORK, text)
        self.check_lines(read, "a: 0\nd: 17\ns: 4")
        self.check_bad(read, 0, *[line for line in WRONG if "\n" not in line])
        self.check_bad(read, 0, "a: ", "a: 00", "a: 1 2", "a: -", "a: .", f"a: {GREAT + 1}", "p: 1", "x: 1", "a: 1..2", "a 1", "\n",
                       "\na: 1", "a: -0", "a:: 1", "aa: 1")
        self.check_bad(read, 1, "a: 1\n", "a: 1\na: 1", "a: 1\na: 2", "d: 1\na: 1", "a: 1\nx: 1", "s: 1\nd: 1", "a: 1\n\nd: 2")
        self.check_bad(read, 2, "a: 1\ns: 1\nd: 1", "a: 1\nd: 1\nd: 1")

    def test_calls(self):
        check_call(self, deaths_text, deaths=(("a", 3), ("d", 0)))
        check_call(self, deaths_in, net=FORK, text="a: 3\nd: 0")


class EndsTest(TextTest):

    def test_ends(self):
        source = random.Random(505)
        for net in NETS:
            for _ in range(10):
                ends = tuple(source.choice([None, 0, 7, GREAT]) for _ in net[0])
                text = ends_text(net, ends)
                self.assertEqual(ends_in(net, text), ends)
                self.assertEqual((ends_text(listed(net), list(ends)), ends_in(listed(net), text)), (text, ends))
        self.assertEqual(ends_text(FORK, (None, 0, 12)), "a: -\nd: 0\ns: 12")

    def test_wrong_lines(self):
        def read(text):
            return ends_in(FORK, text)
        self.check_lines(read, "a: -\nd: 0\ns: 12")
        behind = "\nd: 0\ns: 1"
        self.check_bad(read, 0, "", behind, *[line + behind for line in WRONG if "\n" not in line])
        self.check_bad(read, 0, *[f"a: {word}" + behind for word in ("", "--", "-1", "- -", "- 1", "1 -", "00", "01", ".", "None", "+1",
                                                                    f"{GREAT + 1}", "1..2", "-0", " -")])
        self.check_bad(read, 0, "d: 1\na: 1\ns: 1", "x: 1", "a 1", "s: 1", "a:: 1", "p: 1", "d: 0\ns: 1")
        self.check_bad(read, 1, "a: 1", "a: 1\n", "a: 1\na: 1\ns: 1", "a: 1\ns: 1\nd: 1", "a: 1\ns: 1", "a: 1\n\nd: 1")
        self.check_bad(read, 2, "a: 1\nd: 1", "a: 1\nd: 1\n", "a: 1\nd: 1\nd: 1")
        self.check_bad(read, 3, "a: 1\nd: 1\ns: 1\n", "a: 1\nd: 1\ns: 1\nx: 1", "a: 1\nd: 1\ns: 1\ns: 1\n")

    def test_calls(self):
        check_call(self, ends_text, net=FORK, ends=(3, None, 0))
        check_call(self, ends_in, net=FORK, text="a: 3\nd: -\ns: 0")


class StepsTest(TextTest):

    def test_steps(self):
        source = random.Random(506)
        for net in NETS:
            for many in range(5):
                steps = tuple((source.choice(net[1])[0], source.choice(["along", "against"])) for _ in net[1][:1] * many)
                text = steps_text(steps)
                self.assertEqual(steps_in(net, text), steps)
                self.assertEqual(steps_text(listed(steps)), text)
        self.assertEqual((steps_text(()), steps_in(FORK, ""), steps_in(ALONE, "")), ("", (), ()))
        self.assertEqual(steps_in(FORK, "+p +p -r -p"), (("p", "along"), ("p", "along"), ("r", "against"), ("p", "against")))

    def test_wrong_lines(self):
        def read(text):
            return steps_in(FORK, text)
        self.check_bad(read, 0, *WRONG)
        self.check_bad(read, 0, "p", "+", "+x", "+a", "+P", "+p ", " +p", "+p  -q", "+ p", "++p", "+-p", "-p+q", "+p,-q", "+p x", "+p +",
                       "+p -", "p+", "*p", "+p -q\t", "+p +x -q", "+x\n", "+pp", "+p\t+q", "+p \n+q")
        self.check_bad(read, 1, "+p\n", "+p\n+q", "+p\n+x", "+p\n\n", "\n", "\n+p")

    def test_calls(self):
        check_call(self, steps_text, steps=(("p", "along"), ("q", "against")))
        check_call(self, steps_in, net=FORK, text="+p -q")


class RowsTest(TextTest):

    def test_rows(self):
        source = random.Random(507)
        met = 0
        for net in small_nets(source, 100, 6, 7, 5):
            table = table_of((net, net[0]))
            if table is not None:
                met += 1
                text = rows_text(table.rows())
                self.assertEqual(rows_in(text), table.rows())
                self.assertEqual(rows_text(listed(table.rows())), text)
        self.assertGreater(met, 80)
        for rows, text in ((((0,),), "0"), (((0, None), (None, 0)), "0 .\n. 0"), (((0, GREAT), (-5, 0)), f"0 {GREAT}\n-5 0"),
                           (((0, 1 - GREAT), (GREAT, 0)), f"0 {1 - GREAT}\n{GREAT} 0")):
            self.assertEqual((rows_text(rows), rows_in(text)), (text, rows))

    def test_wrong_lines(self):
        self.check_bad(rows_in, 0, "", "\n", "\n0", *[line for line in WRONG if "\n" not in line])
        self.check_bad(rows_in, 0, *[f"0 {word}\n1 0" for word in ("-0", "--1", "-", "+1", "01", "-01", "00", "x", "..", "", "None", "1.",
                                                                  f"{GREAT + 1}", f"{-GREAT - 1}", "\u0661", "1 ", " 1", "1\t",
                                                                  "- 1", "1-", ". ", "-.")])
        self.check_bad(rows_in, 1, "0 1\n", "0 1\n1", "0 1\n1 0 1", "0 1\n\n1 0", "0 1\n1 x", "0\n0 0", "0 1\n1 0 ", "0 1\n1 -0",
                       "1", "-1", ".", "0 1", "0 1 2")
        self.check_bad(rows_in, 2, "0 1\n1 0\n", "0 1\n1 0\n1", "0 1\n-1 0", "0 0\n0 0", "0 .\n1 0", "0 1\n. 0", "1 1\n1 0", "0 1\n1 1",
                       "0\n0", "0 1 1\n1 0 1", "0 1\n1 0\n0 0 0", ". 1\n1 0")
        self.check_bad(rows_in, 3, "0 1 2\n0 0 0\n0 1 1", "0 1\n1 0\n1 1", "0 5 1\n0 0 0\n0 1 0", "0\n0\n0")

    def test_calls(self):
        check_call(self, rows_text, rows=((0, None), (None, 0)))
        check_call(self, rows_in, text="0 .\n. 0")


if __name__ == "__main__":
    unittest.main()
