"""The examples of the document, as it shows them."""

import unittest

from tests.examples import pieces, run

A6 = '''
    >>> from latewires.signals import is_on, on_ticks, signal_error
    >>> some = (3, ((5, 2, 3, 4), (40, 1, 0, 1)), 90)
    >>> [signal_error(value) for value in (some, (None, (), None), (0, (), 0), [3, (), None], (True, (), None), (None, ((5, 2, 3, 0),), None), (None, ((5, 2, 1, 1),), None))]
    [None, None, None, 'form', 'form', ('burst', 0), ('burst', 0)]
    >>> [signal_error(value) for value in ((3, ((3, 1, 0, 1),), None), (None, ((5, 2, 0, 1), (7, 1, 0, 1)), None), (None, ((5, 2, 0, 1),), 7), (3, (), 3), (5, (), -5))]
    [('order', 0), ('order', 1), ('since',), ('since',), ('since',)]
    >>> [signal_error((None, bursts, None)) for bursts in (((5, 2, 0, 1), (8, 2, 0, 1)), ((5, 2, 1, 2), (11, 2, 0, 1)), ((5, 2, 1, 2), (12, 2, 0, 1)))]
    [('joined', 0), ('joined', 0), None]
'''

A7 = '''
    >>> [is_on(some, tick) for tick in (-10 ** 30, 2, 3, 6, 7, 21, 22, 40, 89, 90)]
    [True, True, False, True, False, True, False, True, False, True]
    >>> on_ticks(some, 0, 12), on_ticks(some, 0, 100), on_ticks(some, 9, 3), on_ticks((0, (), 0), 1, 10 ** 30), on_ticks((None, ((0, 1, 1, 10 ** 30),), None), 1, 10 ** 40) == 10 ** 30 - 1
    (7, 23, 0, 1000000000000000000000000000000, True)
'''

A8 = '''
    >>> from latewires.signaltexts import read_signal, signal_text
    >>> signal_text(some), signal_text((None, (), None)), signal_text((0, (), 0)), read_signal("until -3; 0 7; since 9"), read_signal("0 1 1 1000")
    ('until 3; 5 2 3 4; 40 1; since 90', '', 'on', (-3, ((0, 7, 0, 1),), 9), (None, ((0, 1, 1, 1000),), None))
    >>> read_signal("0 1; 2 1")
    raises BadText()
    >>> read_signal("until 0; since 0")
    raises BadText()
    >>> read_signal("5 2 0 1")
    raises BadText()
'''

B2 = '''
    >>> from latewires.rows import row_error
    >>> row, steady, wide = (("on", 3), ("off", 5), ("delay", 2), ("on", 1)), (("on", 4), ("off", 4)), (("off", 4), ("on", 4))
    >>> [row_error(value) for value in (row, (), (("turn",),) * 40, (("turn",),) * 41, list(row), None)]
    [None, None, None, 'form', 'form', 'form']
    >>> [row_error((("on", 0), part)) for part in (("on",), ("turn", 0), "turn", ["turn"], ("on", True), ("off", -1), ("delay", 10 ** 30 + 1), ("late", 2))]
    [('part', 1), ('part', 1), ('part', 1), ('part', 1), ('part', 1), ('part', 1), ('part', 1), ('part', 1)]
'''

B3 = '''
    >>> from latewires.rowtexts import read_row, row_text
    >>> row_text(row), row_text(()), row_text((("turn",), ("on", 0)))
    ('on 3, off 5, delay 2, on 1', 'none', 'turn, on 0')
    >>> read_row("off 4, on 4") == wide, read_row("none"), read_row("turn")
    (True, (), (('turn',),))
    >>> read_row("on 3,off 5")
    raises BadText()
    >>> read_row("on 03")
    raises BadText()
    >>> read_row("")
    raises BadText()
'''

B4 = '''
    >>> from latewires.answers import answer, answers
    >>> door = (None, ((0, 6, 2, 2), (30, 2, 0, 1)), None)
    >>> answers(row, door)
    ((None, ((3, 3, 5, 2),), None), (None, ((3, 16, 0, 1),), None), (None, ((5, 16, 0, 1),), None), (None, ((6, 15, 0, 1),), None))
    >>> answer(steady, door), answer(wide, door)
    ((None, ((4, 6, 2, 2),), None), (None, ((4, 14, 0, 1), (34, 2, 0, 1)), None))
    >>> answer((("turn",),), door), answer((), door) == door, answers((), door)
    ((0, ((6, 2, 0, 1), (14, 16, 0, 1)), 32), True, ())
    >>> answer((("on", 2),), (5, (), 9)), answer((("off", 2),), (5, (), 9)), answer((("off", 4),), (5, (), 9)), answer((("turn",),), (0, (), 0))
    ((5, (), 11), (7, (), 9), (0, (), 0), (None, (), None))
    >>> answer((("on", 10 ** 30),), (None, ((0, 10 ** 30, 1, 7), (10 ** 32, 10 ** 30 + 1, 0, 1)), None)) == (None, ((10 ** 32 + 10 ** 30, 1, 0, 1),), None)
    True
'''

C3 = '''
    >>> from latewires.walks import form, heights, stages
    >>> row, steady, wide = (("on", 3), ("off", 5), ("delay", 2), ("on", 1)), (("on", 4), ("off", 4)), (("off", 4), ("on", 4))
    >>> heights(row), stages(row), form(row)
    ((3, -2, -2, -1), (('drop', 3), ('fill', 2)), (False, 6, 7, (('drop', 3), ('fill', 2))))
    >>> form(steady), form(wide), form(()), form((("delay", 7),))
    ((False, 4, 4, (('drop', 4),)), (False, 4, 4, (('fill', 4),)), (False, 0, 0, ()), (False, 7, 7, ()))
    >>> form((("on", 2), ("off", 1), ("on", 1))), form((("on", 2), ("off", 4), ("on", 7), ("off", 1), ("on", 2)))
    ((False, 3, 1, (('drop', 2),)), (False, 11, 5, (('drop', 2), ('fill', 2), ('drop', 6))))
    >>> heights((("on", 1), ("turn",), ("on", 3), ("turn",), ("off", 1))), form((("turn",), ("on", 3))), form((("turn",), ("delay", 2), ("turn",)))
    ((1, 1, -2, -2, -3), (True, 0, 3, (('fill', 3),)), (False, 2, 2, ()))
'''

C4 = '''
    >>> from latewires.meanings import cleaned, meant
    >>> train = (None, ((0, 2, 1, 5),), None)
    >>> cleaned((("drop", 2), ("fill", 1)), train), cleaned((("fill", 1), ("drop", 2)), train), cleaned((("fill", 1), ("drop", 14)), train)
    ((None, (), None), (None, ((0, 14, 0, 1),), None), (None, (), None))
    >>> cleaned((("drop", 1), ("fill", 3)), (0, ((2, 1, 0, 1), (5, 2, 0, 1)), 9)), cleaned((("fill", 9),), (0, (), 9))
    ((0, (), 5), (0, (), 0))
'''

C5 = '''
    >>> signal = (None, ((0, 3, 0, 1), (10, 6, 0, 1)), None)
    >>> meant(form(steady), signal), meant(form(wide), signal), meant(form((("turn",), ("on", 3))), (0, (), 5))
    ((None, ((14, 6, 0, 1),), None), (None, ((4, 3, 0, 1), (14, 6, 0, 1)), None), (None, ((3, 2, 0, 1),), None))
'''

D2 = '''
    >>> from latewires.orders import alike, dropped_ahead, filled_ahead, shifts, within
    >>> some = (("drop", 2), ("fill", 3), ("drop", 5))
    >>> [filled_ahead(some, k) for k in (0, 1, 2, 4, 5, 9)], [dropped_ahead(some, l) for l in (0, 2, 3, 8)], filled_ahead((), 3)
    ([0, 0, 3, 3, 3, 3], [2, 2, 5, 5], 0)
'''

D3 = '''
    >>> steady, wide, twice, back = (("on", 4), ("off", 4)), (("off", 4), ("on", 4)), (("on", 2), ("off", 4), ("on", 2)), (("off", 2), ("on", 4), ("off", 2))
    >>> alike((("on", 2), ("off", 1), ("on", 1)), (("delay", 1), ("on", 2))), alike(steady, wide), alike((("turn",), ("on", 3)), (("off", 3), ("turn",)))
    (True, False, True)
    >>> within(steady, wide), within(wide, steady), within(twice, back), within(back, twice), within((("on", 3),), ()), within((("turn",),), ())
    (True, False, True, False, True, False)
    >>> shifts((("on", 3),), ()), shifts(steady, ()), shifts((), steady), shifts((("turn",), ("on", 3)), (("turn",),))
    ((-3, 0), (-4, -4), None, (-3, 0))
'''

D4 = '''
    >>> from latewires.papers import beyond, beyond_holds, unlike, unlike_holds
    >>> beyond(steady, wide), unlike(steady, steady), beyond_holds(back, twice, ((None, ((0, 1, 1, 2),), None), 4)), beyond_holds(back, twice, ((None, ((0, 1, 1, 2),), None), 3))
    (None, None, True, False)
    >>> [beyond_holds(wide, steady, value) for value in (beyond(wide, steady), ((None, ((0, 4, 0, 1),), None), 4), ((None, ((0, 5, 0, 1),), None), 4), [], None)]
    [True, True, False, False, False]
    >>> unlike_holds(steady, wide, unlike(steady, wide)), unlike_holds(twice, back, ((None, ((0, 2, 1, 2),), None), 8)), beyond_holds((), (("turn",),), ((0, (), 0), 7))
    (True, True, True)
'''

E2 = '''
    >>> from latewires.chains import is_exchange, chain, chain_holds
    >>> swing, swung, short = (("on", 2), ("off", 1), ("on", 1)), (("on", 2), ("delay", 1), ("on", 0)), (("on", 2), ("delay", 1))
    >>> is_exchange(swing, swung), is_exchange(swung, swing), is_exchange(swung, short), is_exchange(swing, short), is_exchange(swing, swing)
    (True, True, True, False, False)
    >>> is_exchange((("off", 3), ("on", 2), ("off", 1)), (("off", 3), ("delay", 1), ("on", 1))), is_exchange((("on", 2), ("off", 3), ("on", 4)), (("on", 2), ("delay", 3), ("on", 1)))
    (True, False)
    >>> is_exchange((("turn",), ("on", 3)), (("off", 3), ("turn",))), is_exchange((("on", 3), ("turn",)), (("turn",), ("off", 3))), is_exchange((("turn",), ("delay", 2)), (("delay", 2), ("turn",)))
    (True, True, True)
    >>> is_exchange((("turn",), ("turn",)), ()), is_exchange((("on", 5),), (("on", 2), ("on", 3))), is_exchange((("delay", 2), ("delay", 2)), (("delay", 2), ("delay", 2)))
    (True, True, False)
'''

E3 = '''
    >>> steady, wide, late = (("on", 4), ("off", 4)), (("off", 4), ("on", 4)), (("delay", 1), ("on", 2))
    >>> chain(steady, wide), chain_holds(steady, steady, (steady,)), chain_holds(swing, late, chain(swing, late))
    (None, True, True)
    >>> [chain_holds(swing, late, value) for value in ((swing, swung, short, late), (swing, short, late), (swung, short, late), [swing, swung, short, late], (), None, (swing, ("on", 2), late))]
    [True, False, False, False, False, False, False]
    >>> both = (("turn",), ("on", 3), ("turn",))
    >>> chain_holds(both, (("off", 3),), (both, (("off", 3), ("turn",), ("turn",)), (("off", 3),))), chain_holds(late, late, (late, short, late))
    (True, True)
'''

F2 = '''
    >>> from latewires.forms import form_error
    >>> from latewires.walks import form
    >>> row, steady, wide = (("on", 3), ("off", 5), ("delay", 2), ("on", 1)), (("on", 4), ("off", 4)), (("off", 4), ("on", 4))
    >>> [form_error(form(some)) for some in (row, steady, wide, (), (("turn",), ("on", 3)))]
    [None, None, None, None, None]
    >>> [form_error(value) for value in (None, [False, 0, 0, ()], (0, 0, 0, ()), (False, True, 0, ()), (False, 0, -1, ()), (False, 0, 0, []))]
    ['form', 'form', 'form', 'form', 'form', 'form']
    >>> [form_error((False, 9, 9, stages)) for stages in ((("drop", 0),), (("drop", 2), ("drop", 3)), (("drop", 2), ("fill", 1), ("drop", 2)), (["fill", 1],))]
    [('stage', 0), ('stage', 1), ('stage', 2), ('stage', 0)]
    >>> [form_error((False, 4, late_off, (("drop", 4),))) for late_off in (3, 4, 5, 0)], form_error((False, 3, 3, (("drop", 4),))), form_error((True, 1, 2, ()))
    ([None, None, 'late', None], 'late', 'late')
    >>> form_error((False, 4, 4, (("drop", 4), ("fill", 4)))), form_error((False, 8, 8, (("drop", 4), ("fill", 4))))
    ('late', None)
'''

F3 = '''
    >>> from latewires.building import fewest_parts, fewest_timers, row_of
    >>> slow = (False, 19, 19, (("drop", 5), ("fill", 2)))
    >>> [form(row_of(some)) == some for some in (slow, form(row), form(wide), (True, 6, 6, ()), (False, 0, 0, ()))]
    [True, True, True, True, True]
    >>> [len(fewest_parts(some)) for some in (form(row), form(steady), slow, (True, 6, 6, ()), (False, 0, 0, ()))]
    [4, 2, 4, 2, 0]
    >>> [len(fewest_timers(some)) for some in (form(row), form(steady), slow, (False, 5, 5, (("drop", 4),)), (True, 0, 0, ()))]
    [4, 2, 6, 4, 1]
    >>> form(fewest_timers(slow)) == slow, form((("on", 3), ("off", 5), ("on", 3), ("off", 2))) == form(row)
    (True, True)
    >>> fewest_timers((False, 7, 7, ()))
    raises NoRow()
    >>> row_of((False, 3, 3, (("drop", 4),)))
    raises BadForm('late')
'''

F5 = '''
    >>> from latewires.counting import effect_count, effects
    >>> effects(0), effects(1), effects(2)[0], effects(2)[-1]
    (((False, 0, 0, ()),), ((False, 0, 1, (('fill', 1),)), (False, 1, 0, (('drop', 1),))), (False, 0, 2, (('fill', 2),)), (False, 2, 0, (('drop', 2),)))
    >>> [effect_count(ticks) for ticks in range(13)], len(effects(4))
    ([1, 2, 4, 8, 14, 22, 34, 50, 72, 100, 138, 186, 248], 14)
    >>> effects(13)
    raises TooMany(12)
'''

G2 = '''
    >>> from latewires.promises import alike_for, beyond_for, form_for, keeps, undone_by, within_for
    >>> row, steady, wide = (("on", 3), ("off", 5), ("delay", 2), ("on", 1)), (("on", 4), ("off", 4)), (("off", 4), ("on", 4))
    >>> signal = (None, ((0, 4, 0, 1), (10, 6, 0, 1)), None)
    >>> keeps(signal, 4, 6), keeps(signal, 5, 1), keeps(signal, 1, 7), keeps((0, (), 5), 90, 5), keeps((0, (), 5), 1, 6), keeps((None, ((0, 2, 3, 7),), None), 2, 3)
    (True, False, False, True, False, True)
    >>> form_for(row, 1, 1), form_for(row, 4, 1), form_for(row, 1, 3), form_for(row, 4, 3)
    ((False, 6, 7, (('drop', 3), ('fill', 2))), (False, 6, 7, (('fill', 2),)), (False, 6, 7, (('drop', 3),)), (False, 6, 7, ()))
    >>> form_for(steady, 4, 1), form_for(steady, 5, 1), form_for((("on", 2), ("off", 4), ("on", 7)), 4, 1)
    ((False, 4, 4, (('drop', 4),)), (False, 4, 4, ()), (False, 9, 4, (('fill', 2), ('drop', 5))))
'''

G3 = '''
    >>> from latewires.papers import beyond_holds
    >>> alike_for(steady, wide, 5, 5), alike_for(steady, wide, 5, 4), alike_for(steady, wide, 4, 5), alike_for((("delay", 4),), wide, 1, 5)
    (True, False, False, True)
    >>> within_for(wide, steady, 5, 5), within_for(wide, steady, 5, 4), within_for(steady, wide, 5, 4), beyond_for(wide, steady, 5, 5)
    (True, False, True, None)
    >>> beyond_holds(wide, steady, ((0, (), 4), 4)), keeps((0, (), 4), 5, 4), beyond_holds(wide, steady, beyond_for(wide, steady, 5, 4)), keeps(beyond_for(wide, steady, 5, 4)[0], 5, 4)
    (True, True, True, True)
'''

G4 = '''
    >>> from latewires.answers import answer
    >>> back, late = undone_by(row, 4, 3)
    >>> late, answer(row, signal), answer(back, answer(row, signal))
    (7, (None, ((6, 5, 0, 1), (16, 7, 0, 1)), None), (None, ((7, 4, 0, 1), (17, 6, 0, 1)), None))
    >>> undone_by(row, 3, 3), undone_by(row, 4, 2), undone_by(steady, 5, 1)[1], undone_by((("turn",), ("on", 3)), 1, 4)[1], undone_by((), 1, 1)[1]
    (None, None, 4, 3, 0)
'''

H2 = '''
    >>> from latewires.powers import power_form, settles
    >>> up, deep, even, back = (("on", 3), ("off", 1)), (("on", 2), ("off", 5)), (("off", 1), ("on", 3), ("off", 2)), (("on", 2), ("turn",))
    >>> power_form(up, 2), power_form(up, 0), power_form(up, 10 ** 30) == (False, 3 * 10 ** 30, 10 ** 30, (("drop", 2 * 10 ** 30 + 1),))
    ((False, 6, 2, (('drop', 5),)), (False, 0, 0, ()), True)
    >>> power_form(deep, 1), power_form(deep, 3), power_form(even, 1000)
    ((False, 2, 5, (('drop', 2), ('fill', 3))), (False, 6, 15, (('drop', 2), ('fill', 9))), (False, 3000, 3000, (('fill', 1), ('drop', 2))))
    >>> power_form(back, 1), power_form(back, 2), power_form(back, 3), power_form(back, 10 ** 30)[1:]
    ((True, 2, 0, (('drop', 2),)), (False, 2, 2, (('drop', 2),)), (True, 4, 2, (('drop', 2),)), (1000000000000000000000000000000, 1000000000000000000000000000000, (('drop', 2),)))
'''

H3 = '''
    >>> settles(()), settles((("delay", 4),)), settles(even), settles(up), settles(back), settles(back + back), settles((("turn",),))
    (0, 0, 1, None, None, 1, None)
'''

H4 = '''
    >>> from latewires.pulses import gap, pulse
    >>> pulse(deep, 2), pulse(deep, 3), gap(deep, 3), gap(deep, 4), pulse((), 7), pulse((("delay", 2),), 10 ** 40)[0]
    (None, (2, 6), None, (5, 1), (0, 7), 2)
    >>> pulse(back, 2), pulse(back, 3), gap(back, 1), pulse((("turn",),), 5)
    (None, (2, 1), (0, 3), (0, 5))
'''

I2 = '''
    >>> from latewires.loose import always_alike, least_on, loose_error, most_on, sure_beyond, sure_beyond_holds, sure_within
    >>> edge, about = (("on", 2, 4), ("off", 3, 3)), (("on", 2, 4), ("turn",), ("off", 1, 5), ("delay", 6))
    >>> [loose_error(value) for value in (edge, about, (), [], (("on", 4, 2),), (("delay", 1), ("on", 2)), (("turn", 1),), (("off", True, 2),))]
    [None, None, None, 'form', ('part', 0), ('part', 1), ('part', 0), ('part', 0)]
'''

I3 = '''
    >>> most_on(edge), least_on(edge)
    ((('on', 2), ('off', 3)), (('on', 4), ('off', 3)))
    >>> most_on(about), least_on(about)
    ((('on', 4), ('turn',), ('off', 5), ('delay', 6)), (('on', 2), ('turn',), ('off', 1), ('delay', 6)))
    >>> from latewires.answers import answer
    >>> answer(least_on(edge), (None, ((0, 4, 0, 1), (20, 9, 0, 1)), None)), answer(most_on(edge), (None, ((0, 4, 0, 1), (20, 9, 0, 1)), None))
    ((None, ((24, 8, 0, 1),), None), (None, ((2, 5, 0, 1), (22, 10, 0, 1)), None))
'''

I4 = '''
    >>> sure_within(edge, (("off", 3, 9),)), sure_within(edge, (("off", 2, 9),)), sure_within(edge, edge), sure_beyond(edge, (("off", 3, 9),))
    (True, False, False, None)
    >>> sure_beyond_holds(edge, (("off", 2, 9),), ((("on", 2), ("off", 3)), (("off", 2),), (0, (), None), 2)), sure_beyond_holds(edge, edge, sure_beyond(edge, edge))
    (True, True)
    >>> paper = ((("on", 2), ("off", 3)), (("on", 4), ("off", 3)), (None, (), 0), 2)
    >>> [sure_beyond_holds(edge, edge, value) for value in (paper, paper[:3] + (4,), (paper[1], paper[0]) + paper[2:], ((("on", 5), ("off", 3)),) + paper[1:], None)]
    [True, False, False, False, False]
'''

I5 = '''
    >>> always_alike(edge), always_alike((("on", 3, 3), ("delay", 2))), always_alike(()), always_alike((("off", 0, 1), ("turn",)))
    (False, True, True, False)
'''

J1 = '''
    >>> from latewires.answers import answer
    >>> from latewires.asking import told_back
    >>> row, wide = (("on", 3), ("off", 5), ("delay", 2), ("on", 1)), (("off", 4), ("on", 4))
    >>> told_back(lambda signal: answer(row, signal)), told_back(lambda signal: signal), told_back(lambda signal: answer(wide, signal))
    ((False, 6, 7, (('drop', 3), ('fill', 2))), (False, 0, 0, ()), (False, 4, 4, (('fill', 4),)))
    >>> far = (("turn",), ("off", 10 ** 30), ("on", 3 * 10 ** 29), ("turn",), ("turn",))
    >>> told_back(lambda signal: answer(far, signal)) == (True, 10 ** 30, 3 * 10 ** 29, (("drop", 10 ** 30),))
    True
'''

K5 = '''
    >>> from latewires.benches import Bench
    >>> b = Bench()
    >>> [b.keep("a", (("on", 2), ("off", 1))), b.keep("b", (("on", 1),)), b.link("a", "b", "c"), list(b), b["c"]]
    [1, 2, 3, ['a', 'b', 'c'], (('on', 2), ('off', 1), ('on', 1))]
    >>> [b.form_of("c"), b.put("b", 0, ("delay", 1)), b.put("b", 2, ("on", 1)), b["b"], b.same("b", "c"), b.inside("c", "b"), b.made]
    [(False, 3, 1, (('drop', 2),)), 4, 5, (('delay', 1), ('on', 1), ('on', 1)), True, True, 2]
    >>> [b.take("b", 0), b.inside("c", "b"), b.inside("b", "c"), b.undo(), b.same("c", "b"), b.made]
    [6, False, False, 5, True, 3]
    >>> b.put("a", 3, ("on", 1))
    raises Unfit()
    >>> b.put("a", 2, ("on", -1))
    raises BadRow(('part', 2))
    >>> b.link("a", "z", "d")
    raises NoName('z')
    >>> b.batch((("drop", "a"), ("take", "a", 0)))
    raises Rejected(1)
'''

K6 = r'''
    >>> from latewires.logs import bench_behind, log_text, read_log
    >>> log_text(b.log[1:4]), log_text((("batch", ()),))
    ('(keep,b,((on,1)))\n(link,a,b,c)\n(put,b,0,(delay,1))\n', '(batch,())\n')
    >>> read_log(log_text(b.log)) == b.log, bench_behind(b.log) == b, read_log("(drop,a)\n(drop,b")
    (True, True, (('drop', 'a'),))
    >>> read_log("(drop,a)\n(take,a,07)\n")
    raises BadLog(1)
    >>> bench_behind((("drop", "a"),))
    raises BadLog(0)
'''

K7 = '''
    >>> from latewires.shells import Shell
    >>> s = Shell()
    >>> [s.say("keep a on 2, off 1"), s.say("put a 2 on 1"), s.say("form a"), s.say("show a"), s.say("names"), s.say("keep b turn")]
    ['version 1', 'version 2', 'plain 3 1 drop 2', 'on 2, off 1, on 1', 'a', 'version 3']
    >>> [s.say("link a b c"), s.say("form c"), s.say("inside c a"), s.say("same a a"), s.say("made"), s.say("undo"), s.say("show c")]
    ['version 4', 'turned 3 1 drop 2', 'no', 'yes', '2', 'version 3', 'error NoName']
    >>> [s.say("keep d on x"), s.say("keep d"), s.say("put a 9 turn"), s.say("put a 0 on 03"), s.say("keep a on 1"), s.say("ask a 0 x"), s.say(7)]
    ['error BadText', 'what', 'error Unfit', 'what', 'error Taken', 'error BadText', 'what']
'''


class TestExamples(unittest.TestCase):
    def test_signals(self):
        run(self, A8, run(self, A7, run(self, A6)))

    def test_rows(self):
        run(self, B4, run(self, B3, run(self, B2)))

    def test_walks_and_meanings(self):
        run(self, C5, run(self, C4, run(self, C3)))

    def test_orders_and_papers(self):
        run(self, D4, run(self, D3, run(self, D2)))

    def test_chains(self):
        run(self, E3, run(self, E2))

    def test_forms_and_building(self):
        run(self, F3, run(self, F2))

    def test_counting(self):
        run(self, F5)

    def test_promises(self):
        run(self, G4, run(self, G3, run(self, G2)))

    def test_powers_and_pulses(self):
        run(self, H4, run(self, H3, run(self, H2)))

    def test_loose_rows(self):
        run(self, I5, run(self, I4, run(self, I3, run(self, I2))))

    def test_asking(self):
        run(self, J1)

    def test_benches_and_logs(self):
        run(self, K6, run(self, K5))

    def test_shells(self):
        run(self, K7)

    def test_the_runner_sees_each_example(self):
        self.assertEqual([len(pieces(text)) for text in (A6, A7, A8, B2, B3, B4)], [5, 2, 5, 4, 6, 7])
        self.assertEqual([len(pieces(text)) for text in (C3, C4, C5, D2, D3, D4)], [6, 4, 2, 3, 4, 4])
        self.assertEqual([len(pieces(text)) for text in (E2, E3, F2, F3, F5)], [6, 5, 8, 8, 4])
        self.assertEqual([len(pieces(text)) for text in (G2, G3, G4, H2, H3, H4)], [6, 4, 4, 5, 1, 3])
        self.assertEqual([len(pieces(text)) for text in (I2, I3, I4, I5)], [3, 4, 4, 1])
        self.assertEqual([len(pieces(text)) for text in (J1, K5, K6, K7)], [6, 9, 5, 5])


if __name__ == "__main__":
    unittest.main()
