"""A rota that keeps a book, or a paper which shows that there is none."""

from lamprota.books import need
from lamprota.bookweb import LIGHT, SEA, rota_by, web_of
from lamprota.webs import is_side, least_side, most_flow, side_worth


def told(book):
    """The pair of "rota" and a rota that keeps the book, or of "none" and the least side of its web."""
    web = web_of(book)
    much, flow = most_flow(web, SEA, LIGHT)
    if much == need(book):
        return ("rota", rota_by(book, flow))
    return ("none", least_side(web, SEA, LIGHT))


def none_stands(book, side):
    """True where a tuple is a side whose worth is less than the need: then no rota keeps the book."""
    web = web_of(book)
    return is_side(web, SEA, LIGHT, side) and side_worth(web, side) < need(book)
