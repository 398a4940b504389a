import itertools
import random
import unittest

from lamprota.errors import BadTicks
from lamprota.laying import burning, laid, lit, steady, ticks_in
from tests import naive

FAR = 10 ** 15


def some_ticks(chance, length, wanted, lamps):
    """Ticks that can be laid out: the whole night for some, then ticks handed from one lamp to another."""
    ticks = [length] * wanted + [0] * (lamps - wanted)
    for again in range(3 * lamps):
        giver, taker = chance.randrange(lamps), chance.randrange(lamps)
        if giver != taker:
            much = chance.randint(0, min(ticks[giver], length - ticks[taker]))
            ticks[giver] -= much
            ticks[taker] += much
    chance.shuffle(ticks)
    return tuple(ticks)


class Laid(unittest.TestCase):
    """Point 3.1."""

    def assertLaid(self, length, wanted, ticks):
        spans = laid(length, wanted, ticks)
        self.assertIs(type(spans), tuple)
        for span in spans:
            self.assertIs(type(span), tuple)
            lamp, start, end = span
            self.assertTrue(0 <= lamp < len(ticks) and 0 <= start < end <= length, spans)
        self.assertEqual(list(spans), sorted(set(spans)))
        for lamp, much in enumerate(ticks):
            own = [span for span in spans if span[0] == lamp]
            self.assertLessEqual(len(own), 2)
            self.assertEqual(sum(end - start for number, start, end in own), much)
            if len(own) == 2:
                self.assertLessEqual(own[0][2], own[1][1])
        # Between two neighbouring bounds nothing changes, so one tick tells of all.
        for tick in {0} | {start for lamp, start, end in spans} | {end for lamp, start, end in spans} - {length}:
            burns = [lamp for lamp, start, end in spans if start <= tick < end]
            self.assertEqual(len(burns), wanted, spans)
            self.assertEqual(len(set(burns)), wanted, spans)
        self.assertTrue(steady(length, wanted, len(ticks), spans))
        self.assertEqual(ticks_in(len(ticks), spans), ticks)

    def assertRefused(self, length, wanted, ticks):
        with self.assertRaises(BadTicks):
            laid(length, wanted, ticks)

    def test_all_small_ones(self):
        for lamps, length in itertools.product((1, 2, 3), (1, 2, 3, 4)):
            for ticks in itertools.product(range(-1, length + 2), repeat=lamps):
                for wanted in range(lamps + 2):
                    fits = all(0 <= much <= length for much in ticks) and sum(ticks) == wanted * length
                    (self.assertLaid if fits else self.assertRefused)(length, wanted, ticks)

    def test_one_to_eight_lamps_and_short_and_long_nights(self):
        chance = random.Random(3)
        for lamps in range(1, 9):
            for wanted in range(lamps + 1):
                for length in (1, 2, 7, 100, FAR - 1, FAR):
                    for again in range(5):
                        self.assertLaid(length, wanted, some_ticks(chance, length, wanted, lamps))

    def test_lamps_of_no_ticks_and_of_the_whole_night(self):
        for length in (1, 6, FAR):
            self.assertLaid(length, 0, (0,))
            self.assertLaid(length, 0, (0,) * 8)
            self.assertLaid(length, 1, (length,))
            self.assertLaid(length, 8, (length,) * 8)
            self.assertLaid(length, 2, (0, length, 0, length))

    def test_lamps_of_the_whole_night_behind_some_of_a_part(self):
        self.assertLaid(6, 2, (2, 6, 4))
        self.assertLaid(6, 3, (5, 6, 6, 1, 0))
        self.assertLaid(FAR, 3, (1, FAR, FAR, FAR - 1))

    def test_nothing_wanted_has_no_spans(self):
        self.assertEqual(laid(5, 0, (0, 0, 0)), ())

    def test_ticks_below_nought_or_above_the_length(self):
        for ticks in ((-1, 6, 5), (6, -1, 5), (5, 6, -1), (7, -2, 5), (-5, 10, 5), (10, 0, 0), (0, 10, 0), (0, 0, 10),
                      (-10 ** 60, 10 ** 60, 10), (4, 10 ** 60, 6 - 10 ** 60)):
            self.assertEqual(sum(ticks), 10)
            self.assertRefused(5, 2, ticks)

    def test_ticks_that_come_to_too_few_or_too_many(self):
        for ticks in ((5, 4, 0), (5, 5, 1), (0, 0, 0), (5, 5, 5), (1, 1, 1)):
            self.assertRefused(5, 2, ticks)
        self.assertRefused(FAR, 2, (FAR, FAR - 1))
        self.assertRefused(FAR, 1, (FAR, 1))
        self.assertRefused(FAR, 0, (1,))

    def test_more_wanted_than_there_are_lamps(self):
        self.assertRefused(5, 2, (5,))
        self.assertRefused(5, 2, (10,))
        self.assertRefused(5, 8, (5,) * 7)

    def test_told_alike_again(self):
        ticks = (3, 6, 2, 1)
        self.assertEqual(laid(6, 2, ticks), laid(6, 2, ticks))
        self.assertEqual(ticks, (3, 6, 2, 1))


class Steady(unittest.TestCase):
    """Point 3.2."""

    def test_steady_spans(self):
        for wanted, spans in ((0, ()), (1, ((0, 0, 6),)), (1, ((0, 0, 3), (0, 3, 6))), (1, ((0, 0, 2), (1, 2, 6))),
                              (2, ((0, 0, 6), (1, 0, 6))), (2, ((0, 0, 4), (1, 0, 2), (1, 4, 6), (2, 2, 6)))):
            self.assertIs(steady(6, wanted, 3, spans), True)

    def test_span_faults(self):
        for spans in (((-1, 0, 6),), ((3, 0, 6),), ((0, -1, 6),), ((0, 0, 7),), ((0, 0, 6), (1, 3, 3)),
                      ((0, 0, 6), (1, 4, 3)), ((1, 3, 6), (0, 0, 3)), ((0, 3, 6), (0, 0, 3)), ((0, 0, 6), (0, 0, 6)),
                      ((0, 0, 4), (0, 3, 6)), ((0, 0, 6), (0, 2, 3)), ((0, 6, 0),)):
            self.assertIs(steady(6, 1, 3, spans), False)

    def test_dark_faults(self):
        for wanted, spans in ((1, ()), (1, ((0, 1, 6),)), (1, ((0, 0, 5),)), (1, ((0, 0, 2), (0, 3, 6))),
                              (1, ((0, 0, 6), (1, 0, 1))), (1, ((0, 0, 6), (1, 5, 6))), (1, ((0, 0, 4), (1, 3, 6))),
                              (0, ((0, 0, 1),)), (2, ((0, 0, 6),)), (4, ((0, 0, 6), (1, 0, 6), (2, 0, 6)))):
            self.assertIs(steady(6, wanted, 3, spans), False)

    def test_the_count_of_lamps_bounds_the_spans(self):
        self.assertIs(steady(6, 1, 1, ((0, 0, 6),)), True)
        self.assertIs(steady(6, 1, 2, ((1, 0, 6),)), True)
        self.assertIs(steady(6, 1, 1, ((1, 0, 6),)), False)

    def test_long_nights(self):
        self.assertIs(steady(FAR, 1, 2, ((0, 0, FAR - 1), (1, FAR - 1, FAR))), True)
        self.assertIs(steady(FAR, 1, 2, ((0, 0, FAR - 1), (1, FAR - 2, FAR))), False)
        self.assertIs(steady(FAR, 1, 2, ((0, 0, FAR - 2), (1, FAR - 1, FAR))), False)
        self.assertIs(steady(FAR, 1, 1, ((0, 0, FAR + 1),)), False)
        self.assertIs(steady(FAR, 1, 1, ((0, 0, FAR // 2), (0, FAR // 2, FAR))), True)

    def test_all_small_ones_against_tick_by_tick(self):
        spans = list(itertools.product((-1, 0, 1, 2), (-1, 0, 1, 2), (0, 1, 2, 3)))
        chosen = [()] + [(one,) for one in spans] + list(itertools.product(spans, spans))
        for some in chosen:
            for wanted in (0, 1, 2):
                told = not naive.span_fault(2, 2, some) and not naive.dark_fault(2, wanted, some)
                self.assertIs(steady(2, wanted, 2, some), told, (wanted, some))


class Told(unittest.TestCase):
    """Point 3.2: what spans without a span fault tell."""

    SPANS = ((0, 0, 2), (0, 2, 4), (0, 6, 7), (2, 1, 3), (2, 5, 7), (3, 0, 1), (3, 2, 3), (3, 4, 5))

    def test_ticks_in(self):
        self.assertEqual(ticks_in(5, self.SPANS), (5, 0, 4, 3, 0))
        self.assertEqual(ticks_in(4, self.SPANS), (5, 0, 4, 3))
        self.assertEqual(ticks_in(3, ()), (0, 0, 0))
        self.assertEqual(ticks_in(2, ((0, 0, FAR), (1, 1, FAR))), (FAR, FAR - 1))

    def test_lit(self):
        self.assertEqual(lit(5, self.SPANS), (2, 0, 2, 3, 0))
        self.assertEqual(lit(3, ()), (0, 0, 0))

    def test_lit_of_spans_that_touch(self):
        self.assertEqual(lit(1, ((0, 0, 1), (0, 1, 2), (0, 2, 3))), (1,))
        self.assertEqual(lit(1, ((0, 0, 1), (0, 1, 2), (0, 3, 4))), (2,))
        self.assertEqual(lit(2, ((0, 0, 3), (1, 3, 6))), (1, 1))
        self.assertEqual(lit(2, ((0, 3, 6), (1, 0, 3))), (1, 1))

    def test_lit_at_the_first_tick_and_at_the_last(self):
        self.assertEqual(lit(2, ((0, 0, 1), (1, 5, 6))), (1, 1))
        self.assertEqual(lit(1, ((0, 0, 1), (0, FAR - 1, FAR))), (2,))
        self.assertEqual(lit(1, ((0, 0, FAR - 1), (0, FAR - 1, FAR))), (1,))

    def test_burning(self):
        self.assertEqual([burning(self.SPANS, tick) for tick in range(8)],
                         [(0, 3), (0, 2), (0, 2, 3), (0,), (3,), (2,), (0, 2), ()])

    def test_burning_at_the_first_tick_and_at_the_last(self):
        spans = ((0, 0, 1), (0, FAR - 1, FAR), (1, 0, FAR), (2, 1, FAR - 1))
        self.assertEqual(burning(spans, 0), (0, 1))
        self.assertEqual(burning(spans, 1), (1, 2))
        self.assertEqual(burning(spans, FAR - 2), (1, 2))
        self.assertEqual(burning(spans, FAR - 1), (0, 1))

    def test_kinds(self):
        for told in (ticks_in(4, self.SPANS), lit(4, self.SPANS), burning(self.SPANS, 0), burning((), 0)):
            self.assertIs(type(told), tuple)

    def test_many_against_tick_by_tick(self):
        chance = random.Random(5)
        length, lamps = 9, 3
        for again in range(300):
            spans = []
            for lamp in range(lamps):
                bounds = sorted(chance.sample(range(length + 1), chance.choice((0, 2, 4, 6))))
                pairs = list(zip(bounds, bounds[1:]))
                spans.extend((lamp, start, end) for start, end in (pairs if chance.random() < 0.3 else pairs[::2]))
            spans = tuple(spans)
            self.assertFalse(naive.span_fault(length, lamps, spans))
            night = [naive.burning(spans, tick) for tick in range(length)]
            self.assertEqual([burning(spans, tick) for tick in range(length)], night)
            self.assertEqual(lit(lamps, spans), naive.lit(length, lamps, spans))
            self.assertEqual(ticks_in(lamps, spans), tuple(sum(lamp in now for now in night) for lamp in range(lamps)))
