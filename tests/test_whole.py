"""One row through the whole program, and what the document promises over all of it."""

import inspect
import random
import unittest

from latewires import errors
from latewires.answers import answer, answers
from latewires.asking import told_back
from latewires.benches import Bench
from latewires.building import fewest_parts, fewest_timers, row_of
from latewires.chains import chain, chain_holds, is_exchange
from latewires.counting import effect_count, effects
from latewires.errors import WireError
from latewires.forms import form_error
from latewires.logs import bench_behind, log_text, read_log
from latewires.loose import always_alike, least_on, loose_error, most_on, sure_beyond, sure_beyond_holds, sure_within
from latewires.meanings import cleaned, meant
from latewires.orders import alike, dropped_ahead, filled_ahead, shifts, within
from latewires.papers import beyond, beyond_holds, unlike, unlike_holds
from latewires.powers import power_form, settles
from latewires.promises import alike_for, beyond_for, form_for, keeps, undone_by, within_for
from latewires.pulses import gap, pulse
from latewires.rows import row_error
from latewires.rowtexts import read_row, row_text
from latewires.shells import Shell
from latewires.signals import is_on, on_ticks, signal_error
from latewires.signaltexts import read_signal, signal_text
from latewires.walks import form, heights, stages
from tests.bench_models import outcome
from tests.models import long_signal, moved, signal_of, some_row, train_strip

TURN = ("turn",)
TOP = 10 ** 30
ROWS = [
    (), (TURN,), (("on", 3), ("off", 5), ("delay", 2), ("on", 1)), (("on", 4), ("off", 4)), (("off", 4), ("on", 4), TURN),
    (TURN, ("off", TOP), ("on", 3 * 10 ** 29), TURN, TURN), (("delay", TOP),) * 40, (("on", TOP), ("off", TOP - 1)) * 20,
    tuple((("on", "off")[k % 2], TOP - 40 + k) for k in range(40)),
]

# What each def of the interface takes, by name and in order.
ARGUMENTS = {
    signal_error: "value", is_on: "signal tick", on_ticks: "signal low high", signal_text: "signal", read_signal: "value",
    row_error: "value", row_text: "row", read_row: "value", answer: "row signal", answers: "row signal", heights: "row",
    stages: "row", form: "row", cleaned: "steps signal", meant: "shape signal", filled_ahead: "steps k", dropped_ahead: "steps l",
    is_exchange: "row other", loose_error: "value", alike: "one other", within: "one other", shifts: "one other",
    beyond: "one other", beyond_holds: "one other value", unlike: "one other", unlike_holds: "one other value",
    chain: "one other", chain_holds: "one other value", form_error: "value", row_of: "shape", fewest_parts: "shape",
    fewest_timers: "shape", effects: "ticks", effect_count: "ticks", keeps: "signal ons offs", form_for: "row ons offs",
    alike_for: "one other ons offs", within_for: "one other ons offs", beyond_for: "one other ons offs",
    undone_by: "row ons offs", power_form: "row times", settles: "row", pulse: "row ons", gap: "row offs", most_on: "loose",
    least_on: "loose", sure_within: "one other", sure_beyond: "one other", sure_beyond_holds: "one other value",
    always_alike: "loose", told_back: "work", log_text: "edits", read_log: "value", bench_behind: "edits", Bench: "",
    Bench.keep: "self name row", Bench.drop: "self name", Bench.put: "self name place part", Bench.take: "self name place",
    Bench.link: "self name other fresh", Bench.batch: "self edits", Bench.form_of: "self name", Bench.same: "self name other",
    Bench.inside: "self name other", Bench.undo: "self", Bench.redo: "self", Bench.at: "self version", Bench.copy: "self",
    Bench.attempt: "self work", Shell: "", Shell.say: "self line",
}


class TestOneRow(unittest.TestCase):
    """Each row goes through all of the package."""

    def rows(self):
        rng = random.Random(1)
        return ROWS + [some_row(rng, rng.randint(1, 12), rng.choice((4, TOP))) for _ in range(40)]

    def signals(self):
        rng = random.Random(2)
        told = [(0, (), 0), (None, (), None), (None, ((0, 3 * TOP, 2 * TOP, 10 ** 9),), None)]
        return told + [signal_of(train_strip(rng, 8)) for _ in range(4)] + [long_signal(rng, 30, TOP, 9)]

    def test_texts_answers_and_forms(self):
        for row in self.rows():
            self.assertIsNone(row_error(row))
            self.assertEqual(read_row(row_text(row)), row)
            for signal in self.signals():
                after = answer(row, signal)
                self.assertEqual(after, meant(form(row), signal))
                if signal_error(after) is None:
                    self.assertEqual(read_signal(signal_text(after)), after)

    def test_rows_for_its_form_and_chains(self):
        for row in self.rows():
            shape = form(row)
            self.assertIsNone(form_error(shape))
            for build in (row_of, fewest_parts):
                other = build(shape)
                self.assertTrue(alike(row, other) and within(row, other) and within(other, row))
                if row_error(other) is None:
                    self.assertTrue(chain_holds(row, other, chain(row, other)))
            self.assertEqual(power_form(row, 1), shape)
            self.assertEqual(form_for(row, 1, 1), shape)
            self.assertEqual(told_back(lambda signal: answer(row, signal)), shape)

    def test_papers_promises_and_loose_rows(self):
        rows = self.rows()
        for one, other in zip(rows, rows[1:]):
            paper = beyond(one, other)
            self.assertEqual(paper is None, within(one, other))
            self.assertEqual(paper is None, beyond_for(one, other, 1, 1) is None)
            self.assertEqual(beyond_holds(one, other, paper), paper is not None)
            self.assertEqual(unlike(one, other) is None, alike(one, other))
            loose = [tuple((part[0], *part[1:] * 2) if part[0] in ("on", "off") else part for part in row) for row in (one, other)]
            self.assertEqual([most_on(each) for each in loose], [one, other])
            self.assertEqual([least_on(each) for each in loose], [one, other])
            self.assertEqual(sure_beyond(*loose), None if paper is None else (one, other) + paper)
            self.assertEqual(sure_within(*loose), within(one, other))
            if paper is not None:
                self.assertTrue(sure_beyond_holds(*loose, (one, other) + paper))

    def test_rows_undone_are_done_twice(self):
        for row in self.rows():
            ons, offs = max((0,) + heights(row)) + 1, 1 - min((0,) + heights(row))
            told = undone_by(row, ons, offs)
            if told is not None:
                back, later = told
                for signal in self.signals():
                    if keeps(signal, ons, offs):
                        self.assertEqual(answer(back, answer(row, signal)), moved(signal, later))
            self.assertEqual(settles(row) is not None, form(row * 3)[3] == form(row)[3] and not form(row)[0]
                             and form(row)[1] == form(row)[2])
            for ticks in (1, 7, TOP, 60 * TOP):
                self.assertEqual(pulse(row, ticks) is None, answer(row, (None, ((0, ticks, 0, 1),), None))
                                 == answer(row, (None, (), None)))
                self.assertEqual(gap(row, ticks) is None, answer(row, (0, (), ticks)) == answer(row, (0, (), 0)))

    def test_in_benches_logs_and_shells(self):
        for row in self.rows():
            bench, shell = Bench(), Shell()
            bench.keep("a", row)
            self.assertEqual(shell.say("keep a " + row_text(row)), "version 1")
            self.assertEqual(shell.say("show a"), row_text(bench["a"]))
            is_turned, late_on, late_off, steps = bench.form_of("a")
            words = ["turned" if is_turned else "plain", str(late_on), str(late_off)]
            words += [str(item) for step in steps for item in step]
            self.assertEqual(shell.say("form a"), " ".join(words))
            for signal in self.signals():
                self.assertEqual(shell.say("ask a " + signal_text(signal)), signal_text(answer(row, signal)))
            self.assertEqual(bench_behind(read_log(log_text(bench.log))), bench)


class TestTheInterface(unittest.TestCase):
    def test_arguments_have_the_names_that_are_told(self):
        for call, names in ARGUMENTS.items():
            parameters = inspect.signature(call).parameters.values()
            self.assertEqual([parameter.name for parameter in parameters], names.split(), call)
            for parameter in parameters:
                self.assertEqual(parameter.kind, inspect.Parameter.POSITIONAL_OR_KEYWORD)
                self.assertIs(parameter.default, inspect.Parameter.empty)

    def test_each_error_is_raised_under_its_own_name(self):
        shape, bench, full = (False, 3, 3, (("drop", 4),)), Bench(), Bench()
        bench.keep("a", ())
        for _ in range(40):
            full.batch(())
        slow = (False, 10 ** 9, 10 ** 9, (("drop", 1),))
        for call, arguments, told in (
            (bench.keep, ("A", ()), ("Unfit",)), (read_row, ("on",), ("BadText",)), (read_signal, ("x",), ("BadText",)),
            (bench.keep, ("b", (TURN, 7)), ("BadRow", ("part", 1))), (row_of, (shape,), ("BadForm", "late")),
            (fewest_timers, ((False, 1, 1, ()),), ("NoRow",)), (fewest_timers, (slow,), ("TooMany", 400)),
            (effects, (13,), ("TooMany", 12)), (effect_count, (301,), ("TooMany", 300)), (bench.drop, ("b",), ("NoName", "b")),
            (bench.keep, ("a", ()), ("Taken", "a")), (bench.batch, (None,), ("BadBatch",)),
            (bench.batch, ((("keep", "b", ()), ("drop", "c")),), ("Rejected", 1)), (full.batch, ((),), ("TooManyEdits",)),
            (Bench().undo, (), ("NothingToUndo",)), (bench.redo, (), ("NothingToRedo",)), (bench.at, ("1",), ("NoVersion", "1")),
            (read_log, ("(drop,a)\nx\n",), ("BadLog", 1)),
        ):
            self.assertEqual(outcome(call, *arguments), ("raised", told))
            with self.assertRaises(WireError) as caught:
                call(*arguments)
            self.assertIs(type(caught.exception), getattr(errors, told[0]))

    def test_it_says_what_it_holds(self):
        """[A2]"""
        rng = random.Random(3)
        for _ in range(150):
            one, other = some_row(rng, rng.randint(0, 5), 3), some_row(rng, rng.randint(0, 5), 3)
            self.assertEqual(alike(one, other), form(one) == form(other))
            self.assertEqual(chain(one, other) is not None, alike(one, other))
            self.assertEqual(undone_by(one, 3, 2) is None, form_for(one, 3, 2)[3] != ())
            self.assertEqual(alike_for(one, other, 1, 1), alike(one, other))
            self.assertEqual(within_for(one, other, 1, 1), within(one, other))
            if shifts(one, other) is not None:
                least, _ = shifts(one, other)
                self.assertTrue(within(one + (("delay", max(0, least)),), other + (("delay", max(0, -least)),)))
            paper = unlike(one, other)
            self.assertEqual(unlike_holds(one, other, paper), paper is not None)


if __name__ == "__main__":
    unittest.main()
