"""Even nights: as few ticks as can be for the lamp that burns the most of them in one night."""

from lamprota.books import need
from lamprota.bookweb import LIGHT, SEA, many_nodes, named_ties, rota_by
from lamprota.leasts import least_number
from lamprota.webs import least_side, most_flow


def evened(tie, name, ticks):
    """A tie of the book's web, bound by these ticks at most where it leads from a flame to a night."""
    tail, head, bound, price = tie
    return (tail, head, min(bound, ticks), price) if name[0] == "burnt" else tie


def even_web(book, ticks):
    """The web of the book in which no lamp can burn more than these ticks in any one night."""
    # One tie alone leads from a flame to its night, so a lesser bound leaves it in its place: the ties still rise.
    return (many_nodes(book), tuple([evened(tie, name, ticks) for tie, name in named_ties(book)]))


def most_even(book):
    """The least ticks that no lamp passes in any one night of some rota, such a rota and a side, or None."""
    ticks = least_number(lambda tried: even_web(book, tried), need(book))
    if ticks is None:
        return None
    much, flow = most_flow(even_web(book, ticks), SEA, LIGHT)
    side = least_side(even_web(book, ticks - 1), SEA, LIGHT) if ticks > 0 else None
    return (ticks, rota_by(book, flow), side)
