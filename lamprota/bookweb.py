"""The web of a book, and how rotas and flows in it tell one another.

Each tie has a name, a tuple of a word, its day and, where it is a lamp's, the lamp: `taken` and `bought` lead from the
sea to the store, `kept` and `left` bring what the store and a tank have in the morning (from the sea on the first
day), `poured` leads from the store to a tank, `through` from a tank to its flame, `burnt` from a flame to the night,
and `shining` from the night to the light.
"""

from lamprota.books import can_burn, need, night_need
from lamprota.laying import laid, ticks_in
from lamprota.walk import held_at_first, held_behind

SEA = 0
LIGHT = 1


def store_node(book, day):
    """The node of the store on a day."""
    return 2 + day * (2 * len(book[2]) + 2)


def tank_node(book, lamp, day):
    """The node of a lamp's tank on a day."""
    return store_node(book, day) + 1 + 2 * lamp


def flame_node(book, lamp, day):
    """The node of a lamp's flame on a day."""
    return store_node(book, day) + 2 + 2 * lamp


def night_node(book, day):
    """The node of the night behind a day."""
    return store_node(book, day) + 2 * len(book[2]) + 1


def first_morning_ties(book):
    """The ties, each with its name, that bring what is there at first."""
    store, oil, lamps, days = book
    ties = [((SEA, store_node(book, 0), oil, 0), ("kept", 0))]
    for lamp, parts in enumerate(lamps):
        ties.append(((SEA, tank_node(book, lamp, 0), parts[1], 0), ("left", 0, lamp)))
    return ties


def later_morning_ties(book, day):
    """The ties, each with its name, that bring what is there from the day ahead."""
    ties = [((store_node(book, day - 1), store_node(book, day), book[0], 0), ("kept", day))]
    for lamp in range(len(book[2])):
        flame = flame_node(book, lamp, day - 1)
        ties.append(((flame, tank_node(book, lamp, day), need(book), 0), ("left", day, lamp)))
    return ties


def day_ties(book, day):
    """The ties, each with its name, between the sea, a day's store, its night and the light."""
    boat, most, price, length, wanted = book[3][day]
    store = store_node(book, day)
    return [
        ((SEA, store, boat, 0), ("taken", day)),
        ((SEA, store, most, price), ("bought", day)),
        ((night_node(book, day), LIGHT, night_need(book, day), 0), ("shining", day)),
    ]


def lamp_ties(book, lamp, day):
    """The ties, each with its name, of a lamp between a day's store and its night."""
    tank = tank_node(book, lamp, day)
    flame = flame_node(book, lamp, day)
    length = book[3][day][3] if can_burn(book, lamp, day) else 0
    return [
        ((store_node(book, day), tank, need(book), 0), ("poured", day, lamp)),
        ((tank, flame, book[2][lamp][0], 0), ("through", day, lamp)),
        ((flame, night_node(book, day), length, 0), ("burnt", day, lamp)),
    ]


def named_ties(book):
    """All ties of the book's web, each with its name, rising."""
    ties = first_morning_ties(book)
    for day in range(1, len(book[3])):
        ties.extend(later_morning_ties(book, day))
    for day in range(len(book[3])):
        ties.extend(day_ties(book, day))
        for lamp in range(len(book[2])):
            ties.extend(lamp_ties(book, lamp, day))
    return sorted(ties)


def many_nodes(book):
    """How many nodes the web of a book has."""
    # The store of a day behind the last one would be the first node that is not there.
    return store_node(book, len(book[3]))


def web_of(book):
    """The web of a book."""
    return (many_nodes(book), tuple([tie for tie, name in named_ties(book)]))


def turn_by(book, day, tanks, flows):
    """How a day goes by named flows, where this is in the tanks in the morning."""
    boat, most, price, length, wanted = book[3][day]
    # A tank has in it also what does not flow of its oil at first, so not all that flows to it may find room.
    # But then the tank is full, and a full one has as much as flows through it.
    poured = [min(flows[("poured", day, lamp)], book[2][lamp][0] - level) for lamp, level in enumerate(tanks)]
    ticks = [flows[("burnt", day, lamp)] for lamp in range(len(tanks))]
    return (flows[("taken", day)], flows[("bought", day)], tuple(poured), laid(length, wanted, tuple(ticks)))


def rota_by(book, flow):
    """The rota that a flow of the need tells."""
    flows = dict([(named[1], much) for named, much in zip(named_ties(book), flow)])
    held = held_at_first(book)
    rota = []
    for day in range(len(book[3])):
        turn = turn_by(book, day, held[1], flows)
        rota.append(turn)
        held = held_behind(book, held, turn)
    return tuple(rota)


def add_lamp_flows(lamp, day, turn, flows):
    """Adds the named flows of a lamp on a day; those of the next morning must be there."""
    taken, bought, poured, spans = turn
    burnt = ticks_in(len(poured), spans)[lamp]
    through = burnt + flows.get(("left", day + 1, lamp), 0)
    from_store = min(poured[lamp], through)
    flows[("burnt", day, lamp)] = burnt
    flows[("through", day, lamp)] = through
    flows[("poured", day, lamp)] = from_store
    flows[("left", day, lamp)] = through - from_store


def add_store_flows(day, turn, flows):
    """Adds the named flows to the store on a day; those of its lamps and of the next morning must be there."""
    taken, bought, poured, spans = turn
    out = sum([flows[("poured", day, lamp)] for lamp in range(len(poured))]) + flows.get(("kept", day + 1), 0)
    from_boat = min(taken, out)
    from_market = min(bought, out - from_boat)
    flows[("taken", day)] = from_boat
    flows[("bought", day)] = from_market
    flows[("kept", day)] = out - from_boat - from_market


def flow_by(book, rota):
    """A flow of the need that a rota which keeps the book tells."""
    # From the last day back, so that only what is burnt later flows on over a night.
    flows = {}
    for day in range(len(rota) - 1, -1, -1):
        for lamp in range(len(book[2])):
            add_lamp_flows(lamp, day, rota[day], flows)
        add_store_flows(day, rota[day], flows)
        flows[("shining", day)] = night_need(book, day)
    return tuple([flows[name] for tie, name in named_ties(book)])
