"""The document's words on webs done by going through everything, slow and plain, and webs to try them on."""

import itertools


def amount(web, first, last, flow):
    many, ties = web
    for (tail, head, bound, price), much in zip(ties, flow):
        if much < 0 or much > bound:
            return None
    going = [sum(much for tie, much in zip(ties, flow) if tie[0] == node) for node in range(many)]
    coming = [sum(much for tie, much in zip(ties, flow) if tie[1] == node) for node in range(many)]
    for node in range(many):
        if node not in (first, last) and going[node] != coming[node]:
            return None
    return going[first] - coming[first]


def worth(web, side):
    return sum(bound for tail, head, bound, price in web[1] if tail in side and head not in side)


def sides(web, first, last):
    others = [node for node in range(web[0]) if node not in (first, last)]
    for many in range(len(others) + 1):
        for some in itertools.combinations(others, many):
            yield tuple(sorted(some + (first,)))


def least_side(web, first, last):
    """The side of the least worth that lies in all others of that worth, found by going through all."""
    worths = {side: worth(web, side) for side in sides(web, first, last)}
    least = [set(side) for side in worths if worths[side] == min(worths.values())]
    within = [side for side in least if all(side <= other for other in least)]
    assert len(within) == 1
    return tuple(sorted(within[0]))


def flows(web):
    return itertools.product(*[range(bound + 1) for tail, head, bound, price in web[1]])


def least_sums(web, first, last):
    """For each amount that a flow has the least sum of such flows, found by going through all."""
    least = {}
    for flow in flows(web):
        much = amount(web, first, last, flow)
        if much is not None:
            total = sum(tie[3] * flows_here for tie, flows_here in zip(web[1], flow))
            least[much] = min(total, least.get(much, total))
    return least


def some_web(chance, many, count, bound, price):
    """A web with so many nodes and ties; zeros and ties that join the same two come often."""
    ties = []
    for again in range(count):
        tail, head = chance.sample(range(many), 2)
        ties.append((tail, head, chance.choice((0, bound, chance.randint(0, bound))),
                     chance.choice((0, price, chance.randint(0, price)))))
    return (many, tuple(ties))


def row_web(chance, many, count, reach):
    """A row of nodes with ties forth and back among them, to neighbours and to nodes within reach."""
    ties = []
    for node in range(many - 1):
        ties.append((node, node + 1, chance.randint(10 ** 39, 10 ** 40), chance.randint(0, 10 ** 15)))
        ties.append((node + 1, node, chance.randint(0, 10 ** 40), chance.randint(0, 10 ** 15)))
    while len(ties) < count:
        tail = chance.randrange(many)
        head = chance.randrange(max(0, tail - reach), min(many, tail + reach + 1))
        if tail != head:
            ties.append((tail, head, chance.randint(0, 10 ** 40), chance.randint(0, 10 ** 15)))
    chance.shuffle(ties)
    return (many, tuple(ties))


def some_way(chance, web, flow, first, last):
    """Arcs (place, 1 or -1) of a way from first to last on which more can flow, by chance; or None."""
    reached = {first: None}
    waiting = [first]
    while waiting:
        node = waiting.pop(chance.randrange(len(waiting)))
        for place, (tail, head, bound, price) in enumerate(web[1]):
            for start, end, turn, room in ((tail, head, 1, bound - flow[place]), (head, tail, -1, flow[place])):
                if start == node and end not in reached and room > 0:
                    reached[end] = (node, place, turn)
                    waiting.append(end)
    if last not in reached:
        return None
    way = []
    while last != first:
        last, place, turn = reached[last]
        way.append((place, turn))
    return way


def some_flow(chance, web, first, last, much):
    """A flow of this amount put together of ways found by chance, or None where there is none."""
    flow = [0] * len(web[1])
    while much > 0:
        way = some_way(chance, web, flow, first, last)
        if way is None:
            return None
        rooms = [web[1][place][2] - flow[place] if turn == 1 else flow[place] for place, turn in way]
        step = min([much] + rooms)
        for place, turn in way:
            flow[place] += turn * step
        much -= step
    return tuple(flow)
