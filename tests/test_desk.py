"""A desk at which requests about a nest are answered."""

import random
import unittest

from joinlags.desk import answers
from joinlags.errors import BadLine
from joinlags.judge import shows_never
from joinlags.nests import Nest
from checks import check_error
from samples import random_nest

STEP = "block step a c b d\nqueue p b a 3 3\nqueue q d c 1 1\nqueue r a c 3 1"
FOUR = STEP + "\nblock two a c b d\nuse x step a c m n\nuse y step m n b d\nblock four a c b d\n" \
    "use x two a c m n\nuse y two m n b d"
ODD = FOUR + "\nblock odd a b c\nqueue p a b 4 2\nblock lone z"


def word_of(thing):
    return "-" if thing is None else str(thing)


def rows_of(table):
    if table is None:
        return "held"
    return "; ".join(" ".join(word_of(entry) for entry in row) for row in table.rows())


def same(nest, block, other):
    return "yes" if nest.table(block) == nest.table(other) else "no"


def ring_of(nest):
    ring = nest.held_ring()
    return "-" if ring is None else "; ".join(" ".join(str(part) for part in step[1:]) for step in ring)


def answer_of(nest, request):
    """What the document's row for the request says, of the Nest's own methods."""
    word, *rest = request.split(" ")
    many = rest[:1] + [int(part) for part in rest[1:]] if word == "row" else rest
    try:
        if word in ("table", "row"):
            return rows_of(nest.table(*rest) if word == "table" else nest.row(*many))
        if word in ("held", "ring"):
            return word_of(nest.first_held()) if word == "held" else ring_of(nest)
        if word == "sums":
            return "-" if nest.ring_sums() is None else " ".join(str(part) for part in nest.ring_sums())
        if word == "at":
            return " ".join(nest.ring_queue(int(rest[0])))
        if word in ("size", "queue"):
            return " ".join(str(part) for part in (nest.size if word == "size" else nest.queue_at)(*rest))
        if word == "lag":
            return word_of(nest.lag(*rest))
        if word == "longest":
            return "endless" if nest.longest(*rest) is None else str(nest.longest(*rest))
        return same(nest, *rest)
    except (LookupError, ValueError) as error:
        return f"refused {type(error).__name__}"


class DeskTest(unittest.TestCase):

    def check(self, text, *pairs):
        """Pairs (request, answer)."""
        requests = "\n".join(request for request, _ in pairs)
        self.assertEqual(answers(f"{text}\n\n{requests}"), [told for _, told in pairs])

    def check_bad(self, number, *texts):
        for text in texts:
            check_error(self, BadLine, {"number": number}, lambda: answers(text))

    def test_tables(self):
        self.check(ODD, ("table step", "0 3 -2 3; 0 0 -2 0; 3 6 0 6; 1 1 -1 0"), ("table four", "held"),
                   ("table odd", "0 4 -; -1 0 -; - - 0"), ("table lone", "0"), ("table none", "refused NoBlock"),
                   ("row step 1", "0 3 -2 3; 0 0 -2 0; 3 6 0 6; 1 1 -1 0"), ("row step 4", "held"), ("row four 1", "held"),
                   ("row odd 1", "refused NoFit"), ("row none 1", "refused NoBlock"), ("row lone 3", "refused NoFit"),
                   ("row step " + "9" * 45, "held"))

    def test_sizes_and_lengths(self):
        self.check(ODD, ("size four", "10 12"), ("size lone", "1 0"), ("size none", "refused NoBlock"),
                   ("longest step", "3"), ("longest two", "1"), ("longest four", "0"), ("longest odd", "refused NoFit"),
                   ("longest none", "refused NoBlock"), ("set step q 2 1", "done"), ("longest step", "endless"),
                   ("longest four", "endless"))

    def test_rings(self):
        nest = Nest(ODD)
        steps = nest.ring_sums()[0]
        written = [(f"at {place}", " ".join(nest.ring_queue(place))) for place in range(steps)]
        self.check(ODD, ("held", "four"), ("ring", ring_of(nest)), ("sums", "8 6 6"), *written,
                   (f"at {steps}", "refused NoStep"), ("at 99999999999999999999", "refused NoStep"),
                   ("set step r 4 1", "done"), ("held", "-"), ("ring", "-"), ("sums", "-"), ("at 0", "refused NoStep"))
        self.check("block one a b\nqueue p a b 1 1\nqueue q b a 1 1", ("held", "one"),
                   ("ring", ring_of(Nest("block one a b\nqueue p a b 1 1\nqueue q b a 1 1"))))
        self.assertRegex(ring_of(Nest("block one a b\nqueue p a b 1 1\nqueue q b a 1 1")), "^. against; . against$")

    def test_queues_and_lags(self):
        nest = Nest(ODD)
        self.check(ODD, ("queue four y.x.p", "y.m m 3 3"), ("queue step q", "d c 1 1"), ("queue four y.x", "refused NoQueue"),
                   ("queue four p", "refused NoQueue"), ("queue none p", "refused NoBlock"), ("queue odd p", "a b 4 2"),
                   ("lag four x.m", "-"), ("lag four x.a", "refused NoWorker"), ("lag none a", "refused NoBlock"),
                   ("lag two m", str(nest.lag("two", "m"))), ("lag two x", "refused NoWorker"), ("lag four e", "refused NoWorker"))
        net = nest.unfolded("two")[0]
        told = answers(ODD + "\n\n" + "\n".join(f"lag two {worker}" for worker in net[0]))
        self.assertIs(shows_never(net, tuple(int(number) for number in told)), True)

    def test_same(self):
        self.check(ODD + "\nblock other a b c\nuse x odd a b c\nblock more a b\nuse x four a b c d",
                   ("same odd other", "yes"), ("same other other", "yes"), ("same step two", "no"), ("same four more", "yes"),
                   ("same four step", "no"), ("same odd lone", "no"), ("same odd step", "no"), ("same lone none", "refused NoBlock"),
                   ("same none four", "refused NoBlock"), ("same none none", "refused NoBlock"))

    def test_set_and_swap(self):
        self.check(ODD, ("set step q 2 1", "done"), ("queue four y.y.q", "d y.n 2 1"), ("held", "-"),
                   ("set step q 0 0", "refused BadQueue"), ("set step q 1 2", "refused BadQueue"), ("set step q 3 0", "refused BadQueue"),
                   ("set step x 1 1", "refused NoQueue"), ("set two x 1 1", "refused NoQueue"), ("set none q 1 1", "refused NoBlock"),
                   ("set none none 0 0", "refused NoBlock"), ("set two x 0 0", "refused NoQueue"), ("queue step q", "d c 2 1"),
                   ("swap two step", "done"), ("size four", "6 6"), ("swap odd step", "refused NoFit"), ("swap none odd", "refused NoBlock"),
                   ("swap odd none", "refused NoBlock"), ("swap step step", "done"), ("back", "done"), ("size four", "6 6"),
                   ("back", "done"), ("size four", "10 12"), ("held", "-"), ("back", "done"), ("held", "four"),
                   ("back", "refused NothingDone"), ("back", "refused NothingDone"), ("held", "four"))

    def test_back_and_beyond(self):
        self.check(STEP, ("back", "refused NothingDone"), ("set step p 3 3", "done"), ("set step p 4 4", "done"), ("back", "done"),
                   ("back", "done"), ("back", "refused NothingDone"), ("set step p 0 0", "refused BadQueue"),
                   ("back", "refused NothingDone"), ("queue step p", "b a 3 3"), ("set step p 9 1", "done"), ("table none", "refused NoBlock"),
                   ("back", "done"), ("back", "refused NothingDone"))

    def test_nests_by_chance(self):
        source = random.Random(601)
        for _ in range(60):
            text = random_nest(source, 5)
            nest = Nest(text)
            blocks = list(nest.blocks()) + ["none"]
            requests = ["held", "ring", "sums", "at 0", "at 3", "at 9"]
            for _ in range(30):
                word = source.choice(["table", "size", "longest", "row", "queue", "lag", "same"])
                more = {"row": [str(source.randint(1, 10 ** 9))], "same": [source.choice(blocks)],
                        "queue": [source.choice(["q0", "q1", "u0.q0", "u1.q0", "u0.u0.q1", "q.0"])],
                        "lag": [source.choice(["a", "b", "u0.a", "u0.b", "u0.c", "u0.u0.a"])]}
                requests.append(" ".join([word, source.choice(blocks)] + more.get(word, [])))
            self.assertEqual(answers(text + "\n\n" + "\n".join(requests)), [answer_of(nest, request) for request in requests])

    def test_changes_by_chance(self):
        source = random.Random(602)
        for _ in range(40):
            text = random_nest(source, 4)
            nest, past, requests, expected = Nest(text), [], [], []
            for _ in range(25):
                blocks = nest.blocks() + ("none",)
                kind = source.choice(["set", "swap", "back", "look"])
                rest = [source.choice(blocks)]
                if kind == "look":
                    requests.append("table " + rest[0])
                    expected.append(answer_of(nest, requests[-1]))
                    continue
                if kind == "back":
                    requests.append("back")
                    expected.append("done" if past else "refused NothingDone")
                    nest = past.pop() if past else nest
                    continue
                rest += [source.choice(blocks)] if kind == "swap" else [source.choice(["q0", "q1", "u0"]), source.randint(0, 5),
                                                                        source.randint(0, 5)]
                requests.append(" ".join(str(part) for part in [kind] + rest))
                try:
                    after = nest.swapped(*rest) if kind == "swap" else nest.changed(*rest)
                except (LookupError, ValueError) as error:
                    expected.append(f"refused {type(error).__name__}")
                    continue
                past.append(nest)
                nest = after
                expected.append("done")
            self.assertEqual(answers(text + "\n\n" + "\n".join(requests)), expected)

    def test_wrong_requests(self):
        good = len(STEP.split("\n"))
        for line in ("", " ", "table", "table ", "table step ", " table step", "table  step", "table step step", "Table step",
                     "table Step", "table step.x", "table 1", "tables step", "size", "size step 1", "held step", "held ", "ring 1",
                     "ring step", "sums 1", "sums step", "at", "at -1", "at +1", "at 01", "at x", "at 1 1", "at 1.0", "at \u0661", "at ",
                     "queue step", "queue step p q", "queue step P", "queue step .p", "queue step 1", "queue p", "queue step p ",
                     "queue Step p", "lag step", "lag step A", "lag step 1a", "lag step a b", "longest", "longest step 1", "longest Step",
                     "row step", "row step 0", "row step -1", "row step 01", "row step x", "row 1", "row 1 step", "row step 1 1",
                     "same step", "same step step step", "same step Step", "same step st.ep", "set step p 1", "set step p 1 1 1",
                     "set step p -1 1", "set step p 01 1", "set step p 1 01", "set step p x 1", "set step p 1 x", "set step x.p 1 1",
                     "set p 1 1", "set step P 1 1", "set step p 1 1 ", "set step p +1 1", "set step p 1 -1", "swap step",
                     "swap step step step", "swap", "swap step s.p", "swap step Step", "back 1", "back ", "back step", "BACK", "x", "held\t",
                     "held\r", "block b a b", "use x step a c b d", "none", "refused", "\u00e4", "row step 00", "at 00", "at"):
            self.check_bad(good + 1, f"{STEP}\n\n{line}", f"{STEP}\n\n{line}\nheld", f"{STEP}\n\n{line}\n", f"{STEP}\n\n{line}\n\n")
            self.check_bad(good + 3, f"{STEP}\n\nheld\nheld\n{line}", f"{STEP}\n\nback\nheld\n{line}\nback")

    def test_names_that_are_none_are_no_wrong_lines(self):
        self.check(STEP, ("queue step p.q", "refused NoQueue"), ("queue step p.", "refused NoQueue"), ("lag step a..b", "refused NoWorker"),
                   ("table block", "refused NoBlock"), ("table table", "refused NoBlock"), ("set step block 0 0", "refused NoQueue"))

    def test_lines_of_the_nest(self):
        lines = FOUR.split("\n")
        for place in range(len(lines)):
            for wrong in (lines[place] + " ", "x " + lines[place], "table step", " "):
                text = "\n".join(lines[:place] + [wrong] + lines[place + 1:])
                self.check_bad(place, text, text + "\n", text + "\n\nheld", text + "\n\nwrong")
        self.check_bad(0, "", "\n", "\n\n", "\nheld", "\n" + STEP, "\n" + STEP + "\n\nheld", "held", "\n\nheld")

    def test_the_line_that_parts(self):
        self.assertEqual(answers(FOUR + "\n"), [])
        self.assertEqual(answers(text=FOUR + "\n"), [])
        self.assertEqual(answers(FOUR + "\n\nheld"), ["four"])
        many = len(FOUR.split("\n"))
        self.check_bad(many, FOUR)
        self.check_bad(many, FOUR + "\nheld")
        self.check_bad(1, "block a b", "block a b\nheld", "block a b\nheld\n")
        self.check_bad(many + 1, FOUR + "\n\n", FOUR + "\n\n\nheld", FOUR + "\n\n\n")
        self.check_bad(many + 2, FOUR + "\n\nheld\n", FOUR + "\n\nheld\n\nheld")
        # The first one parts, so what comes behind it are requests.
        self.check_bad(2, "block a b\n\nblock c d\n\nheld")
        # A nest that is wrong behind it is not looked at, one ahead is told first.
        self.check_bad(1, "block a b\nblock a b\n\nwrong")

    def test_every_answer_is_new(self):
        text = FOUR + "\n\nheld\ntable step"
        first = answers(text)
        first.append("changed")
        self.assertEqual(answers(text), first[:-1])

    def test_large_nests(self):
        text, word = STEP.replace(" 3 1", f" {2 ** 37} 1"), "step"
        for level in range(37):
            text += f"\nblock l{level} a c b d\nuse x {word} a c m n\nuse y {word} m n b d"
            word = f"l{level}"
        deep = "x." * 37 + "p"
        told = answers(f"{text}\n\nheld\nsize l36\nlongest step\nlongest l36\nqueue l36 {deep}\nlag l36 m\nset step r {2 ** 36} 1\nheld\n"
                       f"sums\nat 0\nat {10 ** 30}\nrow step {2 ** 36}\nsame l35 l36\nback\nsame l35 l36")
        self.assertEqual(told[:5], ["-", f"{2 ** 38 + 2} {3 * 2 ** 37}", str(2 ** 37), "1", "x." * 36 + "m a 3 3"])
        self.assertEqual((told[6:8], told[10], told[12:]), (["done", "l36"], "refused NoStep", ["no", "done", "no"]))


if __name__ == "__main__":
    unittest.main()
