"""Logs written and read, and benches behind them."""

import random
import re
import unittest

from latewires.benches import Bench
from latewires.errors import BadLog, WireError
from latewires.logs import bench_behind, log_text, read_log
from tests.bench_models import outcome
from tests.models import some_row
from tests.spoiling import spoilt
from tests.test_benches import bench_with, full_bench, some_edit
from tests.values import VALUES, near

TURN = ("turn",)
FAR = 10 ** 60
COUNTS = {"keep": 2, "drop": 1, "put": 3, "take": 2, "link": 3, "batch": 1}
EDITS = (
    ("keep", "a", (("on", 3), TURN, ("delay", 10 ** 30))), ("drop", "a"), ("put", "a", 0, TURN), ("take", "a", 12),
    ("link", "a", "b", "abcdefgh"), ("batch", ()), ("batch", (("drop", "a"), ("keep", "b", ()))), ("take", "a", -FAR),
    ("take", FAR, -1), ("put", (), ((),), ("none", 0)), ("keep", "keep", "none"), ("batch", ((((((("x",),),),),),),)),
)
ATOM = re.compile(r"[a-z]{1,8}|0|-?[1-9][0-9]{0,60}")


def parsed(text, place, nest):
    """Return the pair of the value whose text begins at place, and the place behind it; raise ValueError if none does."""
    if text[place:place + 1] != "(":
        found = ATOM.match(text, place)
        if not found:
            raise ValueError(place)
        told = found.group() if found.group().isalpha() else int(found.group())
        if type(told) is int and abs(told) > FAR:
            raise ValueError(place)
        return told, found.end()
    if nest == 8:
        raise ValueError(place)
    items = []
    place += 1
    while text[place:place + 1] != ")" or items:
        item, place = parsed(text, place, nest + 1)
        items.append(item)
        if text[place:place + 1] == ")":
            break
        if text[place:place + 1] != ",":
            raise ValueError(place)
        place += 1
    return tuple(items), place + 1


def expected(text):
    """Return what read_log comes to for a string, as the document tells it."""
    edits = []
    for place, line in enumerate(text.split("\n")[:-1]):
        try:
            edit, end = parsed(line, 0, 0)
        except ValueError:
            return "raised", ("BadLog", place)
        if end != len(line) or type(edit) is not tuple or not edit or COUNTS.get(edit[0], -9) + 1 != len(edit):
            return "raised", ("BadLog", place)
        edits.append(edit)
    return "told", tuple(edits)


def some_item(rng, depth):
    """Return a value that has a text, with tuples at most so deep in it, by a random source."""
    kind = rng.random()
    if depth > 0 and kind < 0.4:
        return tuple(some_item(rng, depth - 1) for _ in range(rng.randint(0, 3)))
    if kind < 0.7:
        return "".join(rng.choice("abz") for _ in range(rng.randint(1, 8)))
    return rng.choice((0, 1, -1, 7, rng.randint(-FAR, FAR), FAR, -FAR))


def some_log(rng):
    """Return a tuple of edit tuples by a random source."""
    words = [rng.choice(sorted(COUNTS)) for _ in range(rng.randint(0, 6))]
    return tuple((word, *(some_item(rng, 7) for _ in range(COUNTS[word]))) for word in words)


class TestLogText(unittest.TestCase):
    def test_texts(self):
        self.assertEqual(log_text(()), "")
        self.assertEqual(log_text(EDITS[:7]), "(keep,a,((on,3),(turn),(delay,1" + "0" * 30 + ")))\n(drop,a)\n(put,a,0,(turn))\n"
                         "(take,a,12)\n(link,a,b,abcdefgh)\n(batch,())\n(batch,((drop,a),(keep,b,())))\n")
        self.assertEqual(log_text(EDITS[7:]), "(take,a,-1" + "0" * 60 + ")\n(take,1" + "0" * 60 + ",-1)\n"
                         "(put,(),(()),(none,0))\n(keep,keep,none)\n(batch,(((((((x))))))))\n")

    def test_written_and_read(self):
        rng = random.Random(1)
        self.assertEqual(read_log(log_text(EDITS)), EDITS)
        for _ in range(400):
            edits = some_log(rng)
            self.assertEqual(repr(read_log(log_text(edits))), repr(edits))
            self.assertEqual(expected(log_text(edits)), ("told", edits))

    def test_unlike_edits_have_unlike_texts(self):
        """[K8]"""
        rng = random.Random(2)
        told = {}
        for _ in range(3000):
            edits = some_log(rng)
            self.assertEqual(told.setdefault(log_text(edits), edits), edits)
        for edit in EDITS[:-3]:
            for other in near(edit):
                if other != edit and type(other) is tuple and expected(log_text((other,))) == ("told", (other,)):
                    self.assertNotEqual(log_text((other,)), log_text((edit,)))


class TestReadLog(unittest.TestCase):
    def check(self, text):
        self.assertEqual(repr(outcome(read_log, text)), repr(expected(text)), text)

    def test_cut_anywhere(self):
        text = log_text(EDITS)
        for cut in range(len(text) + 1):
            self.assertEqual(read_log(text[:cut]), EDITS[:text[:cut].count("\n")])

    def test_spoilt_in_one_place(self):
        for edit in EDITS:
            line = log_text((edit,))
            for text in spoilt(line):
                self.check(text)
            for sign in "(),-09az\nA \t'":
                for place in range(len(line)):
                    self.check(line[:place] + sign + line[place:])
                    self.check(line[:place] + sign + line[place + 1:])
                    self.check("(drop,a)\n" + line[:place] + sign + line[place:] + "(drop,b)\n")

    def test_lines(self):
        for lines in ("", "\n", "\n\n", "(drop,a)", "(drop,a)\n", "(drop,a)\n\n", "(drop,a)\n \n", "(drop,a)\n(", " (drop,a)\n",
                      "(drop,a) \n", "(drop,a)(drop,a)\n", "(drop,a),(drop,a)\n", "drop\n", "5\n", "()\n", "(())\n", "(5,a)\n",
                      "((drop),a)\n", "(undo)\n", "(drop)\n", "(drop,a,b)\n", "(drop,)\n", "(drop,,a)\n", "(,drop,a)\n", ",\n",
                      "(drop,a,)\n", "(drop,None)\n", "(drop,none)\n", "(drop,True)\n", "(drop,a\n)\n", "(drop, a)\n", ")(drop,a)\n",
                      "(drop,a))\n", "((drop,a)\n", "(drop,abcdefghi)\n", "(drop,abcdefgh)\n", "(drop,a1)\n", "(drop,1a)\n",
                      "(drop,-)\n", "(drop,-0)\n", "(drop,0)\n", "(drop,00)\n", "(drop,+1)\n", "(drop,a(b))\n", "(drop,(a)b)\n",
                      "x(drop,a)\n", "(drop,a)x\n", "(Drop,a)\n", "(dropp,a)\n", "(drop,\"a\")\n", "(drop,a)\r\n", "[drop,a]\n"):
            self.check(lines)

    def test_the_place_of_the_first_wrong_line(self):
        for place in range(6):
            text = "(drop,a)\n" * place + "(drop,)\n" + "(drop,a)\n" * 3 + "x\n"
            self.assertEqual(outcome(read_log, text), ("raised", ("BadLog", place)))
        self.assertEqual(outcome(read_log, "\n"), ("raised", ("BadLog", 0)))

    def test_brackets_of_all_depths(self):
        for nest in range(1, 30):
            for inner in ("", "x", "-7"):
                text = "(batch," + "(" * (nest - 1) + inner + ")" * nest + "\n"
                self.check(text)
                # The edit tuple's own bracket is among them.
                if nest > 1:
                    self.assertEqual(outcome(read_log, text)[0], "told" if nest <= 8 else "raised")
        self.check("(" * 19990 + "\n")
        self.check("(batch," + "(" * 9000 + ")" * 9001 + "\n")
        self.check("(batch," + "(),(" * 4000 + "))\n")
        wide = "(batch,(" + ",".join(["(drop,a)"] * 2000) + "))\n"
        self.assertEqual(len(read_log(wide)[0][1]), 2000)
        self.assertEqual(log_text(read_log(wide)), wide)
        wide = "(batch,(" + ",".join(["a"] * 9900) + "))\n"
        self.assertEqual(len(read_log(wide)[0][1]), 9900)

    def test_numbers_at_the_bounds(self):
        for number in (FAR, -FAR, FAR - 1, FAR + 1, -FAR - 1, 10 * FAR - 1, 10 * FAR, -10 * FAR, 0, -1, 10 ** 399):
            fits = abs(number) <= FAR
            self.assertEqual(outcome(read_log, f"(take,a,{number})\n")[0], "told" if fits else "raised")
            self.check(f"(take,a,{number})\n")
            self.check(f"(take,a,0{number})\n")
            self.check(f"(take,a,-{number})\n")

    def test_values_of_all_kinds(self):
        for value in VALUES + [[], ("(drop,a)\n",), Bench(), EDITS]:
            if type(value) is str:
                self.check(value)
            else:
                self.assertEqual(outcome(read_log, value), ("raised", ("BadLog", 0)))


class TestBenchBehind(unittest.TestCase):
    def test_benches_and_their_logs(self):
        """[K8]"""
        rng = random.Random(3)
        for _ in range(60):
            bench = Bench()
            for _ in range(60):
                word, *arguments = some_edit(rng, ("keep", "put", "put", "take", "link", "batch", "drop"))
                try:
                    getattr(bench, word)(*arguments)
                except WireError:
                    pass
            other = bench_behind(bench.log)
            self.assertIs(type(other), Bench)
            self.assertEqual((other == bench, other.version, repr(other.log)), (True, bench.version, repr(bench.log)))
            self.assertEqual(read_log(log_text(bench.log)), bench.log)
            self.assertEqual([other.at(k) for k in range(other.version + 1)], [bench.at(k) for k in range(bench.version + 1)])
            for _ in range(bench.version):
                self.assertEqual((other.undo(), other.shelf), (bench.undo(), bench.shelf))

    def test_the_place_of_the_first_error(self):
        fit = (("keep", "a", ()), ("put", "a", 0, TURN), ("batch", (("keep", "b", ()),)))
        for wrong in (("drop", "x"), ("keep", None, ()), ("put", "a", 9, TURN), ("take", "a", True), ("keep", "c", (1,)),
                      ("link", "a", "a", "none"), ("batch", (("drop", "x"),)), ("batch", None), ("batch", ((),)), ("drop", [])):
            for place in range(4):
                edits = fit[:place] + (wrong,) + fit[place:] + (wrong,)
                self.assertEqual(outcome(bench_behind, edits), ("raised", ("BadLog", place)), edits)
        self.assertEqual(outcome(bench_behind, fit + (("keep", "b", ()),)), ("raised", ("BadLog", 3)))

    def test_values_of_all_kinds_as_arguments(self):
        for value in VALUES:
            for edit in (("drop", value), ("take", value, 0), ("link", value, "a", "b"), ("link", "a", value, "c")):
                self.assertEqual(outcome(bench_behind, (("keep", "a", (TURN,)), edit)), ("raised", ("BadLog", 1)))

    def test_more_edits_than_may_stand(self):
        log = full_bench(40).log
        self.assertEqual(bench_behind(log), full_bench(40))
        self.assertEqual(outcome(bench_behind, log + (("batch", ()),)), ("raised", ("BadLog", 40)))
        self.assertEqual(bench_behind(()), Bench())
        self.assertEqual(bench_behind((("batch", ()),) * 40).version, 40)

    def test_behind_undo(self):
        bench = bench_with(a=(), b=(TURN,))
        bench.undo()
        self.assertEqual(bench_behind(bench.log), bench)
        self.assertEqual(bench_behind(bench.log).log, (("keep", "a", ()),))

    def test_forms_are_made_anew(self):
        bench = bench_with(a=())
        bench.form_of("a")
        self.assertEqual(bench_behind(bench.log).made, 0)


class TestConventions(unittest.TestCase):
    def test_arguments_by_name(self):
        self.assertEqual(log_text(edits=EDITS[1:2]), "(drop,a)\n")
        self.assertEqual(read_log(value="(drop,a)\n"), EDITS[1:2])
        self.assertEqual(bench_behind(edits=EDITS[:1]).shelf, (("a", EDITS[0][2]),))

    def test_equal_calls_get_equal_results_and_change_nothing(self):
        rng = random.Random(4)
        for _ in range(40):
            edits = some_log(rng)
            ahead = repr(edits)
            self.assertEqual(log_text(edits), log_text(edits))
            self.assertEqual(repr(read_log(log_text(edits))), repr(read_log(log_text(edits))))
            outcome(bench_behind, edits)
            self.assertEqual(repr(edits), ahead)
        value = ["(drop,a)\n", [[]]]
        self.assertRaises(BadLog, read_log, value)
        self.assertEqual(value, ["(drop,a)\n", [[]]])
        edits = (("keep", "a", [["on", 1]]),)
        self.assertRaises(BadLog, bench_behind, edits)
        self.assertEqual(edits, (("keep", "a", [["on", 1]]),))

    def test_rows_of_all_kinds_through_a_log(self):
        rng = random.Random(5)
        for _ in range(60):
            row = some_row(rng, rng.randint(0, 40), 10 ** 30)
            bench = bench_with(a=row)
            self.assertEqual(bench_behind(read_log(log_text(bench.log)))["a"], row)


if __name__ == "__main__":
    unittest.main()
