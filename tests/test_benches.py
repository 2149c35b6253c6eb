"""Benches, beside a model that does as the document tells."""

import random
import unittest

from latewires.benches import Bench
from latewires.errors import (
    BadBatch, BadForm, BadRow, BadText, NoName, NothingToRedo, NothingToUndo, NoVersion, Rejected, Taken, TooMany,
    TooManyEdits, Unfit, WireError,
)
from latewires.walks import form
from tests.bench_models import EDITS, Model, is_name, outcome
from tests.models import some_row
from tests.values import VALUES

TURN = ("turn",)
TOP = 10 ** 30
SOME = (("on", 2), ("off", 1))
ALL = VALUES + [["keep", "a", ()], (("keep", "a", ()),), (("drop", "a"), ("turn",)), Bench(), NoName("a"), -TOP, "a" * 9]


def bench_with(**rows):
    """Return a bench that keeps these rows."""
    bench = Bench()
    for name, row in rows.items():
        bench.keep(name, row)
    return bench


def full_bench(edits):
    """Return a bench with "a" at which so many edits stand."""
    bench = bench_with(a=SOME)
    for k in range(edits - 1):
        bench.put("a", 0, ("delay", k)) if k % 2 == 0 else bench.take("a", 0)
    return bench


def some_value(rng, fits):
    """Return one of fits, or now and then any value."""
    return rng.choice(fits) if rng.random() < 0.93 else rng.choice(ALL)


def some_edit(rng, words=tuple(EDITS)):
    """Return an edit by a random source, which often can be done and often not."""
    word = rng.choice(words)
    names = tuple("abcdefghij")[:rng.choice((3, 10))]
    if word == "batch":
        edits = tuple(some_edit(rng) for _ in range(rng.choice((0, 1, 1, 2, 2, 3, 12))))
        if rng.random() < 0.1:
            edits += rng.choice(((("batch", ()),), (("undo",),), (["drop", "a"],), (("drop",),), (("drop", "a"),) * 12))
        return word, edits
    arguments = {
        "keep": (names, (some_row(rng, rng.randint(0, 6), 4), some_row(rng, 40, TOP), (("on", -1),), SOME)),
        "drop": (names,),
        "put": (names, range(-1, 8), (TURN, ("on", 3), ("off", TOP), ("delay", 0), ("on", -1))),
        "take": (names, range(-1, 8)),
        "link": (names, names, names),
    }[word]
    return word, *(some_value(rng, fits) for fits in arguments)


class TestBesideTheModel(unittest.TestCase):
    def check(self, bench, model):
        self.assertEqual(bench.shelf, model.shelf())
        self.assertEqual(bench.version, len(model.edits))
        self.assertEqual(repr(bench.log), repr(tuple(model.edits)))
        self.assertEqual(bench.made, len(model.forms))
        self.assertEqual(list(bench), [name for name, _ in model.shelf()])
        self.assertEqual([bench[name] for name in bench], [row for _, row in model.shelf()])
        self.assertEqual(len(bench), len(model.rows))

    def do(self, bench, model, word, *arguments):
        told = outcome(getattr(bench, word), *arguments)
        self.assertEqual(repr(told), repr(model.do(word, *arguments)), (word, arguments))
        self.check(bench, model)
        return told

    def some_step(self, rng, bench, model):
        """Do one step, by a random source; return what came."""
        words = ("keep", "put", "put", "take", "link", "batch", "drop")
        kind = rng.choice(("edit",) * 8 + ("undo", "undo", "redo", "at", "form_of", "same", "inside"))
        if kind == "edit":
            return self.do(bench, model, *some_edit(rng, words))
        if kind in ("undo", "redo"):
            return self.do(bench, model, kind)
        if kind == "at":
            return self.do(bench, model, "at", some_value(rng, range(-1, bench.version + 2)))
        many = 1 if kind == "form_of" else 2
        return self.do(bench, model, kind, *(some_value(rng, "abc") for _ in range(many)))

    def test_steps(self):
        rng = random.Random(1)
        seen = set()
        for session in range(60):
            bench, model = Bench(), Model()
            # Some sessions begin near the bounds.
            for name in "abcdefg" if session % 3 == 0 else ():
                self.do(bench, model, "keep", name, SOME)
            for _ in range(35 if session % 4 == 0 else 0):
                self.do(bench, model, "batch", ())
            for _ in range(90):
                told = self.some_step(rng, bench, model)
                seen.add(told[1][0] if told[0] == "raised" else None)
        self.assertEqual(seen, {None, "Unfit", "BadRow", "Taken", "TooMany", "NoName", "BadBatch", "Rejected", "TooManyEdits",
                                "NothingToUndo", "NothingToRedo", "NoVersion"})

    def test_copies_that_go_their_own_ways(self):
        rng = random.Random(2)
        for _ in range(25):
            pairs = [(Bench(), Model())]
            for _ in range(80):
                bench, model = rng.choice(pairs)
                if rng.random() < 0.1 and len(pairs) < 5:
                    pairs.append((bench.copy(), model.copy()))
                else:
                    self.some_step(rng, bench, model)
                for each in pairs:
                    self.check(*each)

    def test_attempts_within_attempts(self):
        rng = random.Random(3)
        seen = {}

        def attempt(bench, model, depth):
            """Do an attempt of some steps, which ends in some way; return how."""
            ending = rng.choice(("returns", "WireError", "KeyError", "ValueError"))
            seen[ending] = seen.get(ending, 0) + 1
            before = (dict(model.rows), list(model.edits), list(model.ahead), list(model.gone))

            def work(given):
                self.assertIs(given, bench)
                for _ in range(rng.randint(0, 6)):
                    self.some_step(rng, bench, model)
                    if depth < 3 and rng.random() < 0.3:
                        attempt(bench, model, depth + 1)
                if ending == "returns":
                    return [depth]
                raise {"WireError": rng.choice((NoName(3), BadText(), WireError(), BadForm("form"))),
                       "KeyError": KeyError("a"), "ValueError": ValueError("b")}[ending]

            if ending == "returns":
                self.assertEqual(bench.attempt(work), [depth])
            else:
                wanted = {"WireError": WireError, "KeyError": KeyError, "ValueError": ValueError}[ending]
                with self.assertRaises(wanted):
                    bench.attempt(work)
            if ending == "WireError":
                model.rows, model.edits, model.ahead, model.gone = before
            self.check(bench, model)

        for _ in range(40):
            bench, model = Bench(), Model()
            for _ in range(20):
                self.some_step(rng, bench, model)
                if rng.random() < 0.3:
                    attempt(bench, model, 0)
        self.assertGreater(min(seen.values()), 40)


class TestABench(unittest.TestCase):
    """[K2]"""

    def test_a_new_bench(self):
        bench = Bench()
        self.assertEqual((bench.shelf, bench.version, bench.log, bench.made, len(bench), list(bench)), ((), 0, (), 0, 0, []))

    def test_properties_can_only_be_read(self):
        bench = bench_with(a=SOME)
        for name in ("shelf", "version", "log", "made"):
            self.assertIsInstance(getattr(Bench, name), property)
            for value in (getattr(bench, name), 7, ()):
                with self.assertRaises(AttributeError):
                    setattr(bench, name, value)
        self.assertEqual((bench.shelf, bench.version, bench.log), ((("a", SOME),), 1, (("keep", "a", SOME),)))

    def test_names(self):
        bench = bench_with(b=(), a=SOME, zz=(TURN,))
        self.assertEqual(list(bench), ["a", "b", "zz"])
        self.assertEqual(len(bench), 3)
        for value in ALL + ["c", "A", "a ", ["a"], ("a",), {"a": SOME}]:
            self.assertIs(value in bench, False)
            with self.assertRaises(NoName) as caught:
                bench[value]
            self.assertIs(caught.exception.given, value)
        for name, row in (("a", SOME), ("b", ()), ("zz", (TURN,))):
            self.assertIs(name in bench, True)
            self.assertEqual(bench[name], row)

    def test_equal_and_unequal(self):
        one, other = bench_with(a=SOME, b=()), bench_with(b=(), a=SOME[:1])
        self.assertFalse(one == other)
        self.assertTrue(one != other)
        other.put("a", 1, SOME[1])
        self.assertTrue(one == other)
        self.assertFalse(one != other)
        self.assertNotEqual((one.log, one.version), (other.log, other.version))
        other.form_of("a")
        self.assertTrue(one == other)
        other.drop("b")
        self.assertTrue(one != other)
        for value in ALL[:-3] + [one.shelf, one.log, list(one), None]:
            if type(value) is not Bench:
                self.assertIs(one == value, False)
                self.assertIs(value == one, False)
                self.assertIs(one != value, True)
        self.assertTrue(Bench() == Bench())
        self.assertFalse(Bench() == ())

    def test_methods_stand_in_the_class_itself(self):
        for name in ("__len__", "__contains__", "__getitem__", "__iter__", "__eq__", "keep", "drop", "put", "take", "link",
                     "batch", "form_of", "same", "inside", "undo", "redo", "at", "copy", "attempt"):
            self.assertIn(name, vars(Bench))


class TestEdits(unittest.TestCase):
    """[K3]"""

    def raises(self, error, told, call, *arguments):
        with self.assertRaises(error) as caught:
            call(*arguments)
        self.assertIs(type(caught.exception), error)
        self.assertEqual(repr(list(vars(caught.exception).values())), repr(told))

    def test_each_edit_tells_the_version(self):
        bench = Bench()
        self.assertEqual([bench.keep("a", SOME), bench.keep("b", ()), bench.put("b", 0, TURN), bench.link("a", "b", "c"),
                          bench.take("c", 0), bench.batch(()), bench.drop("a")], [1, 2, 3, 4, 5, 6, 7])
        self.assertEqual(bench.shelf, (("b", (TURN,)), ("c", (("off", 1), TURN))))
        self.assertEqual(bench.log, (("keep", "a", SOME), ("keep", "b", ()), ("put", "b", 0, TURN), ("link", "a", "b", "c"),
                                     ("take", "c", 0), ("batch", ()), ("drop", "a")))

    def test_edits_that_leave_the_shelf_stand(self):
        bench = bench_with(a=())
        self.assertEqual(bench.batch((("keep", "b", ()), ("drop", "b"))), 2)
        self.assertEqual(bench.batch(()), 3)
        self.assertEqual(len(bench.log), 3)

    def test_names_of_all_kinds(self):
        for name, fits in (("a", True), ("abcdefgh", True), ("z", True), ("nones", True), ("nonE", False), ("none", False),
                           ("abcdefghi", False), ("", False), ("A", False), ("a1", False), ("a b", False), ("a\n", False),
                           ("\n", False), ("a_", False), ("on", True), ("keep", True), ("{", False), ("`", False)):
            if fits:
                self.assertEqual(Bench().keep(name, ()), 1)
                self.assertEqual(bench_with(a=SOME).link("a", "a", name + "z" * (name == "a")), 2)
            else:
                self.raises(Unfit, [], Bench().keep, name, ())
                self.raises(Unfit, [], bench_with(a=SOME).link, "a", "a", name)
        for value in ALL:
            if not is_name(value):
                self.raises(Unfit, [], Bench().keep, value, SOME)
                self.raises(Unfit, [], bench_with(a=SOME).link, "a", "a", value)
            for call in (Bench().drop, Bench().form_of):
                self.raises(NoName, [value], call, value)
            self.raises(NoName, [value], bench_with(a=SOME).link, "a", value, "a")
            self.raises(NoName, [value], bench_with(a=SOME).same, "a", value)

    def test_keep_tells_its_errors_in_order(self):
        bench = bench_with(**{name: SOME for name in "abcdefgh"})
        self.raises(Unfit, [], bench.keep, "A", (("on", -1),))
        self.raises(BadRow, [("part", 0)], bench.keep, "a", (("on", -1),))
        self.raises(BadRow, ["form"], bench.keep, "a", [])
        self.raises(Taken, ["a"], bench.keep, "a", ())
        self.raises(TooMany, [8], bench.keep, "i", ())
        for _ in range(32):
            bench.batch(())
        self.raises(Unfit, [], bench.keep, "A", ())
        self.raises(BadRow, ["form"], bench.keep, "a", [])
        self.raises(Taken, ["a"], bench.keep, "a", ())
        self.raises(TooMany, [8], bench.keep, "i", ())
        self.assertEqual(bench.version, 40)
        self.raises(TooManyEdits, [], full_bench(40).keep, "b", ())
        for value in ALL:
            told = outcome(Bench().keep, "a", value)
            if value in ((), (TURN,), (("on", 3),)) and type(value) is tuple:
                self.assertEqual(told, ("told", 1))
            else:
                self.assertEqual(told[1][0], "BadRow")

    def test_drop_tells_its_errors_in_order(self):
        self.raises(NoName, ["b"], full_bench(40).drop, "b")
        self.raises(TooManyEdits, [], full_bench(40).drop, "a")
        bench = full_bench(39)
        self.assertEqual(bench.drop("a"), 40)
        self.assertEqual(bench.shelf, ())

    def test_put_tells_its_errors_in_order(self):
        bench = full_bench(40)
        self.raises(NoName, ["b"], bench.put, "b", -1, None)
        for place in (-1, 4, True, None, "0", (), 10 ** 60):
            self.raises(Unfit, [], bench.put, "a", place, None)
        for place in (0, 1, 2, 3):
            self.raises(BadRow, [("part", place)], bench.put, "a", place, ("on", -1))
            self.raises(TooManyEdits, [], bench.put, "a", place, TURN)
        bench = bench_with(a=(TURN,) * 40, b=(TURN,) * 39)
        self.raises(BadRow, ["form"], bench.put, "a", 40, TURN)
        self.raises(BadRow, ["form"], bench.put, "a", 40, None)
        self.assertEqual(bench.put("b", 39, ("on", 1)), 3)
        self.assertEqual(bench["b"], (TURN,) * 39 + (("on", 1),))

    def test_put_and_take_at_each_place(self):
        row = (("on", 1), ("off", 2), TURN)
        for place in range(4):
            bench = bench_with(a=row)
            bench.put("a", place, ("delay", 7))
            self.assertEqual(bench["a"], row[:place] + (("delay", 7),) + row[place:])
            bench.take("a", place)
            self.assertEqual(bench["a"], row)
            if place < 3:
                bench.take("a", place)
                self.assertEqual(bench["a"], row[:place] + row[place + 1:])

    def test_take_tells_its_errors_in_order(self):
        bench = full_bench(40)
        self.raises(NoName, [7], bench.take, 7, -1)
        for place in (-1, 3, False, None, "0", [0]):
            self.raises(Unfit, [], bench.take, "a", place)
        self.raises(TooManyEdits, [], bench.take, "a", 0)
        self.raises(Unfit, [], bench_with(a=()).take, "a", 0)

    def test_link_tells_its_errors_in_order(self):
        bench = bench_with(a=(TURN,) * 21, b=(TURN,) * 20, c=SOME)
        self.raises(NoName, ["x"], bench.link, "x", "y", None)
        self.raises(NoName, ["y"], bench.link, "a", "y", None)
        self.raises(Unfit, [], bench.link, "a", "b", "none")
        self.raises(BadRow, ["form"], bench.link, "a", "b", "c")
        self.raises(Taken, ["c"], bench.link, "b", "b", "c")
        self.assertEqual(bench.link("b", "b", "d"), 4)
        self.assertEqual(bench["d"], (TURN,) * 40)
        self.assertEqual(bench.link("c", "b", "e"), 5)
        self.assertEqual(bench["e"], SOME + (TURN,) * 20)
        for name in "fgh":
            bench.link("c", "c", name)
        self.raises(TooMany, [8], bench.link, "c", "c", "i")
        self.raises(Taken, ["h"], bench.link, "c", "c", "h")
        self.raises(TooManyEdits, [], full_bench(40).link, "a", "a", "b")
        self.raises(Taken, ["a"], full_bench(40).link, "a", "a", "a")

    def test_arguments_stay_as_they_were_handed_in(self):
        row, edits = (("on", 1),), (("keep", "b", ()), ("put", "b", 0, TURN))
        bench = Bench()
        bench.keep("a", row)
        bench.batch(edits)
        self.assertEqual(bench.log, (("keep", "a", row), ("batch", edits)))
        for value in ([["keep"]], {"a": [1]}, [("drop", "a")]):
            ahead = repr(value)
            for call in (bench.drop, bench.batch, bench.at, bench.form_of):
                self.assertRaises(WireError, call, value)
            self.assertRaises(WireError, bench.put, "a", 0, value)
            self.assertEqual(repr(value), ahead)


class TestBatches(unittest.TestCase):
    raises = TestEdits.raises

    def test_a_batch_is_one_edit(self):
        bench = bench_with(a=SOME)
        edits = (("keep", "b", ()), ("put", "b", 0, TURN), ("link", "a", "b", "c"), ("take", "c", 1), ("drop", "a"))
        self.assertEqual(bench.batch(edits), 2)
        self.assertEqual(bench.shelf, (("b", (TURN,)), ("c", (("on", 2), TURN))))
        self.assertEqual(bench.log[1], ("batch", edits))
        self.assertEqual(bench.undo(), 1)
        self.assertEqual(bench.shelf, (("a", SOME),))
        self.assertEqual(bench.redo(), 2)
        self.assertEqual(bench.shelf, (("b", (TURN,)), ("c", (("on", 2), TURN))))

    def test_how_many(self):
        bench = bench_with(a=SOME)
        self.assertEqual(bench.batch((("put", "a", 0, TURN),) * 12), 2)
        self.assertEqual(len(bench["a"]), 14)
        self.raises(BadBatch, [], bench.batch, (("put", "a", 0, TURN),) * 13)

    def test_bad_batches(self):
        bench = bench_with(a=SOME)
        fit = ("put", "a", 0, TURN)
        for edits in (None, [fit], fit, "drop", (fit, None), (fit, list(fit)), (fit, ()), (("batch", ()),), (fit, ("undo",)),
                      (("drop",),), (("drop", "a", "b"),), (("keep", "b"),), (("put", "a", 0),), (("take", "a"),),
                      (("link", "a", "b"),), (("link", "a", "b", "c", "d"),), (("Drop", "a"),), ((None, "a"),), ((["drop"], "a"),),
                      (({}, "a"),), ((True, "a"),), (("form_of", "a"),), (("copy",),), {"drop": "a"}, (("batch", ((fit,),)),)):
            self.raises(BadBatch, [], bench.batch, edits)
        for value in ALL:
            if value != () or type(value) is not tuple:
                if not (type(value) is tuple and value == (("keep", "a", ()),)):
                    self.raises(BadBatch, [], bench.batch, value)
        self.assertEqual((bench.version, bench.shelf), (1, (("a", SOME),)))

    def test_rejected_batches_change_nothing(self):
        bench = bench_with(a=SOME)
        fit = ("put", "a", 0, TURN)
        for wrong in (("drop", "b"), ("keep", "a", ()), ("keep", "B", ()), ("put", "a", -1, TURN), ("take", "a", 99),
                      ("link", "a", "a", "a"), ("keep", "b", None), ("drop", None), ("drop", ["a"]), ("take", "a", "0")):
            for index in (0, 1, 7, 11):
                edits = (fit,) * index + (wrong,) + (("drop", "b"),) * (11 - index)
                self.raises(Rejected, [index], bench.batch, edits)
                self.assertEqual((bench.version, bench.shelf, bench.log), (1, (("a", SOME),), (("keep", "a", SOME),)))
        self.raises(Rejected, [7], bench.batch, tuple(("keep", name, ()) for name in "bcdefghi"))

    def test_errors_in_order(self):
        bench = full_bench(40)
        self.raises(BadBatch, [], bench.batch, (("drop", "b"), None))
        self.raises(Rejected, [0], bench.batch, (("drop", "b"),))
        self.raises(TooManyEdits, [], bench.batch, (("drop", "a"),))
        self.raises(TooManyEdits, [], bench.batch, ())
        # Its parts are counted as one edit.
        bench = full_bench(39)
        self.assertEqual(bench.batch((("put", "a", 0, TURN),) * 12), 40)

    def test_a_batch_within_a_batch(self):
        self.raises(BadBatch, [], bench_with(a=SOME).batch, (("batch", (("drop", "a"),)),))


class TestUndoAndRedo(unittest.TestCase):
    """[K5], [K8]"""

    def test_back_and_again(self):
        bench = Bench()
        edits = [("keep", "a", SOME), ("put", "a", 1, TURN), ("link", "a", "a", "b"), ("batch", (("drop", "a"),)), ("take", "b", 0)]
        seen = [(bench.shelf, bench.version, bench.log)]
        for word, *arguments in edits:
            getattr(bench, word)(*arguments)
            seen.append((bench.shelf, bench.version, bench.log))
        for version in range(4, -1, -1):
            self.assertEqual(bench.undo(), version)
            self.assertEqual((bench.shelf, bench.version, bench.log), seen[version])
        self.assertRaises(NothingToUndo, bench.undo)
        for version in range(1, 6):
            self.assertEqual(bench.redo(), version)
            self.assertEqual((bench.shelf, bench.version, bench.log), seen[version])
        self.assertRaises(NothingToRedo, bench.redo)
        self.assertEqual([bench.at(version) for version in range(6)], [shelf for shelf, _, _ in seen])

    def test_an_edit_forgets_what_was_taken_back(self):
        bench = bench_with(a=SOME, b=SOME)
        bench.undo()
        self.assertRaises(Taken, bench.keep, "a", ())
        self.assertEqual(bench.redo(), 2)
        bench.undo()
        bench.batch(())
        self.assertRaises(NothingToRedo, bench.redo)
        self.assertEqual(bench.shelf, (("a", SOME),))

    def test_versions(self):
        bench = bench_with(a=SOME, b=())
        bench.undo()
        self.assertEqual([bench.at(0), bench.at(1)], [(), (("a", SOME),)])
        for value in [2, -1, 10 ** 60, True, False, None, "1", (), [0]] + ALL[7:]:
            with self.assertRaises(NoVersion) as caught:
                bench.at(value)
            self.assertIs(caught.exception.given, value)
        self.assertEqual(Bench().at(0), ())
        self.assertRaises(NoVersion, Bench().at, 1)

    def test_forty_edits(self):
        bench = full_bench(40)
        self.assertRaises(TooManyEdits, bench.batch, ())
        self.assertEqual(bench.undo(), 39)
        self.assertEqual(bench.redo(), 40)
        for version in range(39, -1, -1):
            self.assertEqual(bench.undo(), version)
        for version in range(1, 41):
            self.assertEqual(bench.redo(), version)
        self.assertEqual(bench, full_bench(40))

    def test_a_copy(self):
        bench = bench_with(a=SOME, b=())
        bench.form_of("a")
        bench.undo()
        other = bench.copy()
        self.assertIs(type(other), Bench)
        self.assertIsNot(other, bench)
        self.assertEqual((other.shelf, other.log, other.version, other.made), (bench.shelf, bench.log, 1, 1))
        self.assertEqual(other.redo(), 2)
        self.assertEqual(bench.version, 1)
        other.form_of("b")
        self.assertEqual((bench.made, other.made), (1, 2))
        self.assertEqual(bench.redo(), 2)
        bench.form_of("b")
        bench.drop("a")
        self.assertEqual((other.shelf, other.made), ((("a", SOME), ("b", ())), 2))


class TestFormsMade(unittest.TestCase):
    """[K4]"""

    def test_a_form_is_made_once_for_equal_rows(self):
        bench = bench_with(a=SOME, b=SOME, c=(TURN,))
        self.assertEqual(bench.form_of("a"), form(SOME))
        self.assertEqual(bench.made, 1)
        bench.form_of("b")
        self.assertIs(bench.same("a", "b"), True)
        self.assertEqual(bench.made, 1)
        self.assertIs(bench.inside("a", "c"), False)
        self.assertEqual(bench.made, 2)

    def test_rows_that_are_alike_but_unequal(self):
        bench = bench_with(a=(("on", 2), ("off", 1), ("on", 1)), b=(("delay", 1), ("on", 2)), c=(("on", 3),))
        self.assertIs(bench.same("a", "b"), True)
        self.assertEqual(bench.made, 2)
        self.assertIs(bench.same("a", "c"), False)
        self.assertIs(bench.inside("c", "a"), True)
        self.assertIs(bench.inside("a", "c"), False)
        self.assertIs(bench.inside("a", "a"), True)
        self.assertEqual(bench.made, 3)

    def test_no_form_is_made_if_a_name_is_missing(self):
        bench = bench_with(a=SOME)
        for call in (bench.same, bench.inside):
            for names, given in ((("x", "a"), "x"), (("a", "y"), "y"), (("x", "y"), "x"), ((["a"], "a"), ["a"])):
                with self.assertRaises(NoName) as caught:
                    call(*names)
                self.assertEqual(caught.exception.given, given)
        self.assertRaises(NoName, bench.form_of, "x")
        self.assertEqual(bench.made, 0)

    def test_forms_are_kept_whatever_comes(self):
        bench = bench_with(a=SOME)
        bench.form_of("a")
        bench.put("a", 0, TURN)
        bench.form_of("a")
        self.assertEqual(bench.made, 2)
        bench.undo()
        bench.form_of("a")
        bench.redo()
        bench.form_of("a")
        bench.drop("a")
        bench.keep("z", SOME)
        bench.form_of("z")
        self.assertEqual(bench.made, 2)

        def work(given):
            given.put("z", 0, ("on", 9))
            given.form_of("z")
            raise BadText()

        self.assertRaises(BadText, bench.attempt, work)
        self.assertEqual((bench["z"], bench.made), (SOME, 3))
        bench.put("z", 0, ("on", 9))
        bench.form_of("z")
        self.assertEqual(bench.made, 3)
        self.assertEqual(bench.copy().made, 3)

    def test_made_counts_rows(self):
        rng = random.Random(4)
        bench, rows = bench_with(a=()), set()
        for _ in range(30):
            bench.put("a", rng.randint(0, len(bench["a"])), ("on", 1))
            bench.form_of("a")
            rows.add(bench["a"])
        self.assertEqual(bench.made, len(rows))


class TestAttempts(unittest.TestCase):
    def test_what_work_returns(self):
        bench = Bench()
        self.assertEqual(bench.attempt(lambda given: given.keep("a", SOME)), 1)
        self.assertIs(bench.attempt(lambda given: given), bench)
        self.assertIsNone(bench.attempt(lambda given: None))
        self.assertEqual(bench.shelf, (("a", SOME),))

    def test_an_error_of_the_package_takes_all_back(self):
        bench = bench_with(a=SOME, b=(), c=())
        bench.undo()

        def work(given):
            given.undo()
            given.keep("d", ())
            given.keep("d", ())

        ahead = (bench.shelf, bench.version, bench.log)
        with self.assertRaises(Taken) as caught:
            bench.attempt(work)
        self.assertEqual(caught.exception.given, "d")
        self.assertEqual((bench.shelf, bench.version, bench.log), ahead)
        self.assertEqual(bench.redo(), 3)

    def test_whatever_raised_it(self):
        for error in (WireError(), BadText(), NoName(None), BadForm("late")):
            bench = bench_with(a=SOME)

            def work(given):
                given.drop("a")
                raise error

            with self.assertRaises(type(error)) as caught:
                bench.attempt(work)
            self.assertIs(caught.exception, error)
            self.assertEqual(bench.shelf, (("a", SOME),))

    def test_other_errors_leave_what_was_done(self):
        for error in (ValueError, KeyError, ZeroDivisionError, TypeError, AttributeError):
            bench = bench_with(a=SOME)

            def work(given):
                given.drop("a")
                raise error()

            self.assertRaises(error, bench.attempt, work)
            self.assertEqual((bench.shelf, bench.version), ((), 2))

    def test_an_attempt_that_catches_another_one(self):
        bench = Bench()

        def inner(given):
            given.keep("b", ())
            given.drop("x")

        def work(given):
            given.keep("a", ())
            for _ in range(2):
                try:
                    given.attempt(inner)
                except NoName:
                    given.batch(())
            return given.version

        self.assertEqual(bench.attempt(work), 3)
        self.assertEqual((bench.shelf, bench.version), ((("a", ()),), 3))

        def outer(given):
            given.attempt(work)
            raise Unfit()

        self.assertRaises(WireError, bench.attempt, outer)
        self.assertEqual(bench.version, 3)

    def test_a_copy_within_an_attempt_stays(self):
        bench, copies = bench_with(a=()), []

        def work(given):
            given.keep("b", ())
            copies.append(given.copy())
            given.keep("b", ())

        self.assertRaises(Taken, bench.attempt, work)
        self.assertEqual((list(bench), list(copies[0])), (["a"], ["a", "b"]))


class TestConventions(unittest.TestCase):
    def test_arguments_by_name(self):
        bench = Bench()
        self.assertEqual(bench.keep(name="a", row=SOME), 1)
        self.assertEqual(bench.put(name="a", place=0, part=TURN), 2)
        self.assertEqual(bench.link(name="a", other="a", fresh="b"), 3)
        self.assertEqual(bench.take(name="a", place=0), 4)
        self.assertEqual(bench.batch(edits=(("drop", "b"),)), 5)
        self.assertEqual(bench.form_of(name="a"), form(SOME))
        self.assertIs(bench.same(name="a", other="a"), True)
        self.assertIs(bench.inside(name="a", other="a"), True)
        self.assertEqual(bench.at(version=1), (("a", SOME),))
        self.assertEqual(bench.attempt(work=lambda given: 7), 7)
        self.assertEqual(bench.drop(name="a"), 6)
        self.assertEqual(bench.log[0], ("keep", "a", SOME))

    def test_what_was_returned_does_not_change(self):
        bench = bench_with(a=SOME)
        told = [bench.shelf, bench.log, bench.at(1), bench["a"], bench.form_of("a")]
        ahead = repr(told)
        bench.put("a", 0, TURN)
        bench.undo()
        bench.drop("a")
        self.assertEqual(repr(told), ahead)

    def test_two_benches_have_nothing_in_common(self):
        one, other = Bench(), Bench()
        one.keep("a", SOME)
        one.form_of("a")
        self.assertEqual((other.shelf, other.version, other.log, other.made), ((), 0, (), 0))


if __name__ == "__main__":
    unittest.main()
