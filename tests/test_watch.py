import random
import unittest

from lamprota.books import cut_to, left_out, made_book
from lamprota.errors import BadBook, BadRow, BadTicks, LampError, NoDeed, NoRest
from lamprota.telling import told
from lamprota.watch import Watch
from tests import naive, naive_books

MOST = 10 ** 30
NIGHT = 10 ** 15
BOOK = made_book(3, 9, [(6, 2, (2,)), (8, 1, (0, 1, 3))],
                 [(4, 3, 7, 4, 1), (2, 5, 11, 3, 1), (6, 1, 2, 5, 1), (0, 9, 1, 2, 1)])
# Nights that keep the book, one behind the other.
NIGHTS = (
    (4, 0, (4, 1), ((0, 0, 4),)),
    (2, 1, (2, 0), ((0, 0, 3),)),
    (6, 0, (0, 4), ((1, 0, 5),)),
    (0, 3, (4, 2), ((0, 0, 1), (0, 1, 2))),
)


def rest_of(book, deeds):
    """Today and the rest of a book behind deeds (a word and its numbers), reckoned anew by the document's words.

    The rest is None behind the last night.
    """
    keep, store, lamps, days = book
    tanks = [lamp[1] for lamp in lamps]
    boats, wanted = [day[0] for day in days], [day[4] for day in days]
    today, failed = 0, []
    for word, *parts in deeds:
        if word == "night":
            taken, bought, poured, spans = parts[0]
            store = min(keep, store + taken + bought - sum(poured))
            for lamp in range(len(lamps)):
                tanks[lamp] += poured[lamp] - sum(end - start for one, start, end in spans if one == lamp)
            today += 1
        elif word == "fails":
            failed.append(parts[0])
        elif word == "boat":
            boats[parts[0]] = parts[1]
        else:
            wanted[parts[0]] = parts[1]
    if today == len(days):
        return today, None
    left = range(today, len(days))
    lamps = tuple((lamp[0], tanks[place], tuple(day - today for day in left if day in lamp[2] or place in failed))
                  for place, lamp in enumerate(lamps))
    return today, (keep, store, lamps, tuple((boats[day],) + days[day][1:4] + (wanted[day],) for day in left))


class Watching(unittest.TestCase):
    def assertState(self, watch, book, deeds):
        """The watch is as the deeds leave it."""
        today, rest = rest_of(book, deeds)
        self.assertEqual(watch.today(), today)
        self.assertEqual(watch.left(), len(deeds))
        if rest is None:
            self.assertRaises(NoRest, watch.rest)
            self.assertRaises(NoRest, watch.told)
        else:
            self.assertEqual(watch.rest(), rest)
            self.assertEqual(made_book(*rest), rest)
            self.assertEqual(watch.told(), told(rest))

    def do(self, watch, word, *parts):
        self.assertIsNone(getattr(watch, word)(*parts))

    def assertDenied(self, watch, word, *parts):
        """The deed is refused with NoDeed and changes nothing."""
        def state():
            rest = watch.rest() if watch.today() < len(BOOK[3]) else None
            return watch.today(), rest, watch.left()
        before = state()
        with self.assertRaises(NoDeed):
            getattr(watch, word)(*parts)
        self.assertEqual(state(), before)


class Deeds(Watching):
    """Points 10.1 and 10.2: each deed."""

    def test_at_first(self):
        watch = Watch(BOOK)
        self.assertEqual(watch.today(), 0)
        self.assertEqual(watch.rest(), BOOK)
        self.assertEqual(watch.left(), 0)
        self.assertEqual(watch.told(), told(BOOK))

    def test_nights(self):
        watch = Watch(BOOK)
        rests = [
            (3, 3, ((6, 2, (1,)), (8, 2, (0, 2))), BOOK[3][1:]),
            (3, 3, ((6, 1, (0,)), (8, 2, (1,))), BOOK[3][2:]),
            (3, 3, ((6, 1, ()), (8, 1, (0,))), BOOK[3][3:]),
        ]
        for place, rest in enumerate(rests):
            self.do(watch, "night", NIGHTS[place])
            self.assertEqual(watch.rest(), rest)
            self.assertState(watch, BOOK, [("night", night) for night in NIGHTS[:place + 1]])
        self.do(watch, "night", NIGHTS[3])
        self.assertState(watch, BOOK, [("night", night) for night in NIGHTS])
        self.assertEqual(watch.today(), 4)

    def test_what_the_store_has_too_much_at_first_is_there_until_tonight(self):
        book = made_book(2, 9, [(9, 0, ())], [(0, 0, 0, 1, 1), (0, 0, 0, 1, 0)])
        watch = Watch(book)
        self.assertEqual(watch.rest()[1], 9)
        self.do(watch, "night", (0, 0, (3,), ((0, 0, 1),)))
        self.assertEqual(watch.rest(), (2, 2, ((9, 2, ()),), ((0, 0, 0, 1, 0),)))

    def test_a_lamp_fails(self):
        watch = Watch(BOOK)
        self.do(watch, "fails", 1)
        self.assertEqual(watch.rest(), left_out(BOOK, 1))
        self.assertEqual(watch.today(), 0)
        self.do(watch, "night", NIGHTS[0])
        self.assertEqual(watch.rest()[2], ((6, 2, (1,)), (8, 2, (0, 1, 2))))
        self.do(watch, "night", NIGHTS[1])
        self.assertEqual(watch.rest()[2], ((6, 1, (0,)), (8, 2, (0, 1))))
        # The third night has a lamp that failed.
        self.assertDenied(watch, "night", NIGHTS[2])
        self.assertEqual(watch.told()[0], "none")

    def test_a_lamp_fails_later(self):
        watch = Watch(BOOK)
        self.do(watch, "night", NIGHTS[0])
        self.do(watch, "fails", 0)
        self.assertEqual(watch.rest()[2], ((6, 2, (0, 1, 2)), (8, 2, (0, 2))))
        self.assertState(watch, BOOK, [("night", NIGHTS[0]), ("fails", 0)])

    def test_a_lamp_that_failed_fails_again(self):
        watch = Watch(BOOK)
        for again in range(3):
            self.do(watch, "fails", 0)
            self.assertEqual(watch.left(), again + 1)
            self.assertEqual(watch.rest(), left_out(BOOK, 0))
        for again in range(2):
            self.do(watch, "back")
            self.assertEqual(watch.rest(), left_out(BOOK, 0))
        self.do(watch, "back")
        self.assertEqual(watch.rest(), BOOK)

    def test_a_boat_is_told_anew(self):
        for day in range(4):
            for much in (0, 1, 4, MOST):
                watch = Watch(BOOK)
                self.do(watch, "boat", day, much)
                self.assertEqual([one[0] for one in watch.rest()[3]],
                                 [much if place == day else one[0] for place, one in enumerate(BOOK[3])])
                self.assertState(watch, BOOK, [("boat", day, much)])

    def test_a_boat_is_told_anew_on_a_later_day(self):
        watch = Watch(BOOK)
        self.do(watch, "night", NIGHTS[0])
        self.do(watch, "night", NIGHTS[1])
        self.do(watch, "boat", 2, 77)
        self.do(watch, "boat", 3, 88)
        self.assertEqual(watch.rest()[3], ((77, 1, 2, 5, 1), (88, 9, 1, 2, 1)))

    def test_the_boat_of_today_can_bring_what_it_is_told_to(self):
        night = (5, 0, (4, 1), ((0, 0, 4),))
        watch = Watch(BOOK)
        self.assertDenied(watch, "night", night)
        self.do(watch, "boat", 0, 5)
        self.do(watch, "night", night)
        watch = Watch(BOOK)
        self.do(watch, "boat", 0, 3)
        self.assertDenied(watch, "night", NIGHTS[0])

    def test_wanted_lamps_are_told_anew(self):
        for day in range(4):
            for wanted in (0, 1, 2):
                watch = Watch(BOOK)
                self.do(watch, "wants", day, wanted)
                self.assertEqual([one[4] for one in watch.rest()[3]],
                                 [wanted if place == day else 1 for place in range(4)])
                self.assertState(watch, BOOK, [("wants", day, wanted)])
        watch = Watch(BOOK)
        self.do(watch, "night", NIGHTS[0])
        self.do(watch, "wants", 1, 0)
        self.do(watch, "wants", 3, 2)
        self.assertEqual(watch.rest()[3], ((2, 5, 11, 3, 0), (6, 1, 2, 5, 1), (0, 9, 1, 2, 2)))
        self.assertDenied(watch, "night", NIGHTS[1])
        self.do(watch, "night", (2, 1, (2, 0), ()))

    def test_what_is_told_follows_the_deeds(self):
        book = made_book(9, 0, [(9, 0, ()), (9, 0, ())], [(4, 0, 0, 2, 1), (0, 0, 0, 2, 1)])
        watch = Watch(book)
        self.assertEqual(watch.told()[0], "rota")
        self.do(watch, "wants", 1, 2)
        self.assertEqual(watch.told()[0], "none")
        self.do(watch, "boat", 1, 2)
        self.assertEqual(watch.told()[0], "rota")
        self.do(watch, "fails", 1)
        self.assertEqual(watch.told(), told(watch.rest()))
        self.assertEqual(watch.told()[0], "none")
        self.do(watch, "wants", 1, 1)
        self.do(watch, "night", watch.told()[1][0])
        self.assertEqual(watch.told()[0], "rota")

    def test_great_numbers(self):
        book = made_book(MOST, MOST, [(MOST, 0, ())] * 8, [(MOST, MOST, NIGHT, NIGHT, 8)] * 16)
        watch = Watch(book)
        deeds = []
        for day in range(16):
            deeds.append(("night", watch.told()[1][0]))
            self.do(watch, *deeds[-1])
            self.assertState(watch, book, deeds)
        for day in range(16):
            self.do(watch, "back")
            deeds.pop()
            self.assertState(watch, book, deeds)


class Back(Watching):
    """Point 10.2: back and left."""

    def test_one_by_one_to_the_first_day(self):
        deeds = [("fails", 1), ("night", NIGHTS[0]), ("boat", 2, 0), ("wants", 3, 2), ("night", NIGHTS[1]), ("fails", 0),
                 ("boat", 3, MOST), ("wants", 2, 0)]
        watch = Watch(BOOK)
        for place, deed in enumerate(deeds):
            self.do(watch, *deed)
            self.assertState(watch, BOOK, deeds[:place + 1])
        for place in range(len(deeds) - 1, -1, -1):
            self.do(watch, "back")
            self.assertState(watch, BOOK, deeds[:place])
        self.assertEqual(watch.rest(), BOOK)
        self.assertDenied(watch, "back")

    def test_behind_the_last_night(self):
        watch = Watch(BOOK)
        deeds = [("night", night) for night in NIGHTS]
        for deed in deeds:
            self.do(watch, *deed)
        for place in (3, 2, 1, 0):
            self.do(watch, "back")
            self.assertState(watch, BOOK, deeds[:place])
        self.assertDenied(watch, "back")

    def test_a_deed_behind_one_taken_back(self):
        watch = Watch(BOOK)
        self.do(watch, "night", NIGHTS[0])
        self.do(watch, "boat", 1, 0)
        self.do(watch, "back")
        self.do(watch, "fails", 0)
        self.assertState(watch, BOOK, [("night", NIGHTS[0]), ("fails", 0)])
        self.do(watch, "back")
        self.do(watch, "back")
        self.do(watch, "wants", 0, 0)
        self.assertState(watch, BOOK, [("wants", 0, 0)])

    def test_what_is_refused_is_no_deed(self):
        watch = Watch(BOOK)
        self.do(watch, "fails", 0)
        self.assertDenied(watch, "boat", 4, 0)
        self.do(watch, "back")
        self.assertState(watch, BOOK, [])

    def test_a_deed_that_changes_nothing_is_one(self):
        watch = Watch(BOOK)
        self.do(watch, "boat", 0, 4)
        self.do(watch, "wants", 0, 1)
        self.assertEqual(watch.rest(), BOOK)
        self.assertEqual(watch.left(), 2)


class Denied(Watching):
    """Point 10.2: deeds that can't be."""

    def test_nights_with_each_fault(self):
        book = made_book(3, 9, [(6, 2, ()), (8, 1, (0,))], [(4, 3, 7, 4, 1), (9, 9, 9, 1, 0)])
        good = (4, 0, (2, 1), ((0, 0, 4),))
        faulty = {
            "boat": [(-1,) + good[1:], (5,) + good[1:]],
            "market": [(4, -1) + good[2:], (4, 4) + good[2:]],
            "pour": [(0, 0, (2, -1), good[3]), (0, 0, (4, 6), good[3]), (4, 3, (10 ** 60, 0), good[3])],
            "tank": [(4, 0, (5, 0), good[3]), (4, 0, (2, 8), good[3])],
            "span": [(4, 0, (2, 1), spans) for spans in (((2, 0, 4),), ((-1, 0, 4),), ((0, -1, 3),), ((0, 0, 5),),
                                                         ((0, 2, 2),), ((0, 2, 4), (0, 0, 2)), ((0, 0, 3), (0, 2, 4)))],
            "away": [(4, 0, (2, 1), ((0, 0, 3), (1, 3, 4)))],
            "oil": [(4, 0, (1, 1), good[3])],
            "dark": [(4, 0, (2, 1), spans) for spans in ((), ((0, 0, 3),), ((0, 1, 4),))],
        }
        self.assertEqual(sorted(faulty), sorted(naive.WORDS))
        for word, nights in faulty.items():
            for night in nights:
                self.assertEqual(naive.fault(cut_to(book, 1), (night,)), (0, word))
                watch = Watch(book)
                with self.assertRaises(NoDeed):
                    watch.night(night)
                self.assertState(watch, book, [])
                self.do(watch, "night", good)
                self.assertState(watch, book, [("night", good)])

    def test_a_night_is_held_against_the_rest(self):
        # What is good as the second day of the rota has a fault as the first.
        watch = Watch(BOOK)
        self.assertDenied(watch, "night", NIGHTS[1])
        self.do(watch, "night", NIGHTS[0])
        self.assertDenied(watch, "night", NIGHTS[0])
        self.do(watch, "night", NIGHTS[1])

    def test_lamps_that_are_not_there(self):
        for lamp in (-3, -2, -1, 2, 3, 10 ** 60, -10 ** 60):
            self.assertDenied(Watch(BOOK), "fails", lamp)

    def test_days_that_are_not_there(self):
        watch = Watch(BOOK)
        for today in range(4):
            for day in (-10 ** 60, -5, -4, -3, -2, -1, today - 1, 4, 5, 10 ** 60):
                self.assertDenied(watch, "boat", day, 1)
                self.assertDenied(watch, "wants", day, 1)
            self.do(watch, "boat", today, BOOK[3][today][0])
            self.do(watch, "boat", 3, 0)
            self.do(watch, "wants", today, 1)
            self.do(watch, "night", NIGHTS[today])

    def test_days_ahead_of_today(self):
        watch = Watch(BOOK)
        self.do(watch, "night", NIGHTS[0])
        self.do(watch, "night", NIGHTS[1])
        for day in (0, 1):
            self.assertDenied(watch, "boat", day, 1)
            self.assertDenied(watch, "wants", day, 1)

    def test_numbers_beyond_the_bounds(self):
        watch = Watch(BOOK)
        for much in (-1, -MOST, MOST + 1, 10 ** 60):
            self.assertDenied(watch, "boat", 0, much)
        for wanted in (-1, -MOST, 3, 8, 9, MOST):
            self.assertDenied(watch, "wants", 0, wanted)

    def test_no_day_left(self):
        watch = Watch(BOOK)
        for night in NIGHTS:
            self.do(watch, "night", night)
        self.assertDenied(watch, "night", NIGHTS[3])
        self.assertDenied(watch, "night", (0, 0, (0, 0), ()))
        for lamp in (-1, 0, 1, 2):
            self.assertDenied(watch, "fails", lamp)
        for day in (-1, 0, 3, 4, 5):
            self.assertDenied(watch, "boat", day, 0)
            self.assertDenied(watch, "wants", day, 0)
        self.assertState(watch, BOOK, [("night", night) for night in NIGHTS])
        self.do(watch, "back")
        self.do(watch, "fails", 1)
        self.do(watch, "night", NIGHTS[3])

    def test_no_deed_left(self):
        watch = Watch(BOOK)
        self.assertDenied(watch, "back")
        self.do(watch, "fails", 0)
        self.do(watch, "back")
        self.assertDenied(watch, "back")
        self.assertDenied(watch, "back")

    def test_refusals_are_taken_by_their_class_and_those_above_alone(self):
        behind = Watch(BOOK)
        for night in NIGHTS:
            behind.night(night)
        kinds = (BadBook, BadRow, BadTicks, NoDeed, NoRest)
        for kind, asked in ((NoDeed, Watch(BOOK).back), (NoRest, behind.rest), (NoRest, behind.told)):
            for taker in (LampError, ValueError, kind):
                self.assertRaises(taker, asked)
            try:
                asked()
            except LampError as refusal:
                self.assertEqual([one for one in kinds if isinstance(refusal, one)], [kind])


class Runs(Watching):
    """Points 10.1 to 10.3: deeds by chance."""

    def some_turn(self, chance, rest):
        """A day's tuple, which may have a fault or none."""
        word, paper = told(cut_to(rest, 1))
        if word == "none":
            spans = tuple((lamp, 0, rest[3][0][3]) for lamp in range(rest[3][0][4]))
            return (rest[3][0][0], rest[3][0][1], tuple(0 for lamp in rest[2]), spans)
        taken, bought, poured, spans = paper[0]
        poured = tuple(much + chance.choice((0, 0, 0, 1)) for much in poured)
        return (taken + chance.choice((0, 0, 1, 2, -1)), bought + chance.choice((0, 0, 1)), poured, spans)

    def some_deed(self, chance, book, today, rest):
        days, lamps = len(book[3]), len(book[2])
        word = chance.choice(("night", "night", "night", "fails", "boat", "wants", "back"))
        if word == "night":
            return (word, (0, 0, (0,) * lamps, ()) if rest is None else self.some_turn(chance, rest))
        if word == "fails":
            return (word, chance.randint(-1, lamps))
        if word == "boat":
            return (word, chance.randint(max(-1, today - 1), days), chance.choice((-1, 0, 1, 3, 6, MOST, MOST + 1)))
        if word == "wants":
            return (word, chance.randint(max(-1, today - 1), days), chance.randint(-1, lamps + 1))
        return (word,)

    def can_be(self, book, today, rest, deed):
        if rest is None:
            return False
        if deed[0] == "night":
            return naive.fault(cut_to(rest, 1), (deed[1],)) is None
        if deed[0] == "fails":
            return deed[1] in range(len(book[2]))
        if deed[0] == "boat":
            return deed[1] in range(today, len(book[3])) and 0 <= deed[2] <= MOST
        return deed[1] in range(today, len(book[3])) and 0 <= deed[2] <= len(book[2])

    def test_runs(self):
        chance = random.Random(111)
        ends = 0
        for again in range(60):
            book, rota = naive_books.some_kept(chance)
            before = repr(book)
            watch, deeds = Watch(book), []
            for step in range(25):
                today, rest = rest_of(book, deeds)
                ends += rest is None
                deed = self.some_deed(chance, book, today, rest)
                if deed == ("back",) and deeds:
                    self.do(watch, "back")
                    deeds.pop()
                elif deed != ("back",) and self.can_be(book, today, rest, deed):
                    self.do(watch, *deed)
                    deeds.append(deed)
                else:
                    with self.assertRaises(NoDeed):
                        getattr(watch, deed[0])(*deed[1:])
                self.assertState(watch, book, deeds)
            self.assertEqual(repr(book), before)
        self.assertGreater(ends, 20)

    def test_a_rota_told_can_be_walked_night_by_night(self):
        chance = random.Random(112)
        for again in range(60):
            book, rota = naive_books.some_kept(chance)
            for way in (rota, told(book)[1]):
                watch = Watch(book)
                for night in way:
                    self.assertEqual(watch.told()[0], "rota")
                    self.do(watch, "night", night)
                self.assertEqual(watch.today(), len(book[3]))


class Own(Watching):
    """Point 0.3."""

    def test_two_watches_of_one_book(self):
        one, other = Watch(BOOK), Watch(BOOK)
        one.fails(0)
        self.assertState(other, BOOK, [])
        other.boat(1, 9)
        other.night(NIGHTS[0])
        self.assertState(one, BOOK, [("fails", 0)])
        self.assertState(other, BOOK, [("boat", 1, 9), ("night", NIGHTS[0])])
        one.back()
        self.assertState(one, BOOK, [])
        self.assertState(other, BOOK, [("boat", 1, 9), ("night", NIGHTS[0])])

    def test_what_is_told_stays(self):
        watch = Watch(BOOK)
        rest, answer = watch.rest(), watch.told()
        before = repr((rest, answer))
        watch.fails(0)
        watch.boat(0, 0)
        watch.wants(0, 0)
        self.assertEqual(repr((rest, answer)), before)
        self.assertEqual(watch.told(), watch.told())

    def test_a_watch_of_a_rest(self):
        watch = Watch(BOOK)
        watch.night(NIGHTS[0])
        other = Watch(watch.rest())
        other.night(NIGHTS[1])
        self.assertEqual(other.today(), 1)
        self.assertEqual(watch.today(), 1)
        watch.night(NIGHTS[1])
        self.assertEqual(other.rest(), watch.rest())
