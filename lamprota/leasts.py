"""The least that does: oil at first, store and first days; and the days of a boat and the lamps that can be spared."""

from lamprota.books import boat_moved, cut_to, left_out, need, with_oil, with_store
from lamprota.bookweb import LIGHT, SEA, web_of
from lamprota.telling import told
from lamprota.webs import least_side, side_worth


def narrowest(web):
    """The least side of sea and light in a web, and its worth."""
    side = least_side(web, SEA, LIGHT)
    return (side, side_worth(web, side))


def least_number(web_at, much):
    """The least number, from 0 on, at which a web lets so much flow from the sea to the light, or None.

    `web_at` tells the web at a number. From one number to the next a side must never lose worth, and never gain more
    than from the one ahead.
    """
    number = 0
    side, worth = narrowest(web_at(number))
    while worth < much:
        gain = side_worth(web_at(number + 1), side) - worth
        if gain == 0:
            return None
        # Here the side lets too little through at every number that is passed over. The next side gains less than
        # this one, so there are no more rounds than ties, however great the numbers are.
        number += (much - worth + gain - 1) // gain
        side, worth = narrowest(web_at(number))
    return number


def least_that_does(book, changed):
    """The least number with which the changed book has a rota, such a rota, and the least side for one less, or None.

    `changed` makes a book of the book and a number.
    """
    # A number that is told is never above the need, so it is far below 10**30.
    number = least_number(lambda tried: web_of(changed(book, tried)), need(book))
    if number is None:
        return None
    side = told(changed(book, number - 1))[1] if number > 0 else None
    return (number, told(changed(book, number))[1], side)


def least_oil(book):
    """The least oil in the store at first that lets the book have a rota, such a rota and a side, or None."""
    return least_that_does(book, with_oil)


def least_store(book):
    """The least that the store must keep over a night for a rota, such a rota and a side, or None."""
    return least_that_does(book, with_store)


def longest_beginning(book):
    """The greatest count of first days that have a rota, their rota, and the least side for one day more."""
    rota = None
    for count in range(len(book[3])):
        word, paper = told(cut_to(book, count + 1))
        if word == "none":
            return (count, rota, paper)
        rota = paper
    return (len(book[3]), rota, None)


def has_rota(book):
    """True where some rota keeps the book."""
    return told(book)[0] == "rota"


def boat_days(book, day):
    """The rising tuple of the days to which the boat of a day can be moved such that there is a rota."""
    return tuple([other for other in range(len(book[3])) if has_rota(boat_moved(book, day, other))])


def spared(book):
    """The rising tuple of the lamps each of which, left out alone, leaves a rota."""
    return tuple([lamp for lamp in range(len(book[2])) if has_rota(left_out(book, lamp))])
