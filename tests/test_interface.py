import importlib
import inspect
import unittest

from lamprota.watch import Watch

NAMES = {
    "books": ("made_book(store, oil, lamps, days)", "night_need(book, day)", "need(book)", "can_burn(book, lamp, day)",
              "cut_to(book, many)", "left_out(book, lamp)", "boat_moved(book, day, other)", "with_store(book, store)",
              "with_oil(book, oil)"),
    "walk": ("fault(book, rota)", "keeps(book, rota)", "evenings(book, rota)", "cost(book, rota)",
             "burnt(book, rota)"),
    "laying": ("laid(length, wanted, ticks)", "steady(length, wanted, lamps, spans)", "ticks_in(lamps, spans)",
               "lit(lamps, spans)", "burning(spans, tick)"),
    "webs": ("amount(web, first, last, flow)", "side_worth(web, side)", "is_side(web, first, last, side)",
             "most_flow(web, first, last)", "least_side(web, first, last)"),
    "bookweb": ("web_of(book)", "store_node(book, day)", "tank_node(book, lamp, day)", "flame_node(book, lamp, day)",
                "night_node(book, day)", "rota_by(book, flow)", "flow_by(book, rota)"),
    "telling": ("told(book)", "none_stands(book, side)"),
    "cheapest": ("flow_sum(web, flow)", "worths_stand(web, flow, worths)", "cheapest_flow(web, first, last, much)",
                 "cheapest(book)"),
    "leasts": ("least_oil(book)", "least_store(book)", "longest_beginning(book)", "boat_days(book, day)",
               "spared(book)"),
    "even": ("most_even(book)", "even_web(book, ticks)"),
    "watch": ("Watch(book)",),
    "texts": ("book_text(book)", "read_book(text)", "answered(text)"),
}
METHODS = ("today(self)", "rest(self)", "told(self)", "night(self, day)", "fails(self, lamp)", "boat(self, day, much)",
           "wants(self, day, wanted)", "back(self)", "left(self)")


class Interface(unittest.TestCase):
    def test_every_name_is_there_with_its_arguments(self):
        for file, forms in NAMES.items():
            module = importlib.import_module("lamprota." + file)
            for form in forms:
                name = form.split("(")[0]
                self.assertEqual(name + str(inspect.signature(getattr(module, name))), form)
                self.assertEqual(getattr(module, name).__module__, "lamprota." + file)

    def test_a_watch_has_its_methods_with_their_arguments(self):
        for form in METHODS:
            name = form.split("(")[0]
            self.assertEqual(name + str(inspect.signature(getattr(Watch, name))), form)
