"""Webs and what flows in them: the amount of a flow, sides and their worth, the greatest flow, the least side."""

from lamprota.books import rises


class Residue:
    """What may still flow in a web, and what is held at its nodes.

    The tie at the place k has two arcs: 2 * k leads along it, with the room that its bound leaves, and 2 * k + 1 leads
    back, with what flows in it for room. A node with a surplus above 0 has something to send on, one with a surplus
    below 0 still lacks something.
    """

    def __init__(self, web):
        many, ties = web
        self.heads = []
        self.rooms = []
        self.leaving = [[] for node in range(many)]
        self.surplus = [0] * many
        for place, tie in enumerate(ties):
            tail, head, bound, price = tie
            self.heads.extend([head, tail])
            self.rooms.extend([bound, 0])
            self.leaving[tail].append(2 * place)
            self.leaving[head].append(2 * place + 1)

    def push(self, arc, much):
        """Lets so much more flow along an arc."""
        self.rooms[arc] -= much
        self.rooms[arc ^ 1] += much

    def open_arcs(self, node):
        """The arcs that leave a node and have some room."""
        return [arc for arc in self.leaving[node] if self.rooms[arc] > 0]

    def flow(self):
        """What flows in each tie."""
        return tuple(self.rooms[1::2])


def outflows(web, flow):
    """For each node what goes out less what comes in."""
    many, ties = web
    out = [0] * many
    for tie, much in zip(ties, flow):
        tail, head, bound, price = tie
        out[tail] += much
        out[head] -= much
    return out


def amount(web, first, last, flow):
    """The amount of a flow from the first node to the last, or None where this is none."""
    many, ties = web
    if any([not 0 <= much <= tie[2] for tie, much in zip(ties, flow)]):
        return None
    out = outflows(web, flow)
    if any([out[node] != 0 for node in range(many) if node != first and node != last]):
        return None
    return out[first]


def side_worth(web, side):
    """The sum of the bounds of the ties that lead from a node of the side to one that is none of it."""
    within = dict([(node, True) for node in side])
    return sum([bound for tail, head, bound, price in web[1] if tail in within and head not in within])


def is_side(web, first, last, side):
    """True where the tuple is a side of the first node and the last."""
    inside = all([0 <= node < web[0] for node in side])
    return inside and rises(side) and first in side and last not in side


def levels_from(residue, start):
    """For each node that can be reached over arcs with room, over how few of them: a dict."""
    levels = {start: 0}
    row = [start]
    while row:
        reached = []
        for node in row:
            for arc in residue.open_arcs(node):
                head = residue.heads[arc]
                if head not in levels:
                    levels[head] = levels[node] + 1
                    reached.append(head)
        row = reached
    return levels


def steps_up(residue, levels):
    """For each node that has a level the arcs with room that lead one level up: a dict."""
    steps = {}
    for node in levels:
        above = levels[node] + 1
        steps[node] = [arc for arc in residue.open_arcs(node) if levels[residue.heads[arc]] == above]
    return steps


def way_to_lack(residue, steps, way, start):
    """A way from the start on, that begins as the one told, to a node that lacks something, or None.

    The way goes over the last step of each node; steps that have no room or lead nowhere are struck out.
    """
    node = residue.heads[way[-1]] if way else start
    while residue.surplus[node] >= 0:
        if not steps[node]:
            if not way:
                return None
            node = residue.heads[way.pop() ^ 1]
            steps[node].pop()
        elif residue.rooms[steps[node][-1]] == 0:
            steps[node].pop()
        else:
            way.append(steps[node][-1])
            node = residue.heads[way[-1]]
    return way


def send_along(residue, way, start):
    """Sends as much as can be along a way, from a start with a surplus to an end that lacks something."""
    end = residue.heads[way[-1]]
    much = min(residue.surplus[start], -residue.surplus[end], min([residue.rooms[arc] for arc in way]))
    for arc in way:
        residue.push(arc, much)
    residue.surplus[start] -= much
    residue.surplus[end] += much


def open_part(residue, way):
    """The way as far as its arcs have room."""
    for place, arc in enumerate(way):
        if residue.rooms[arc] == 0:
            return way[:place]
    return way


def send_on(residue, steps, start):
    """Sends the surplus of a node over steps to nodes that lack something, until none is left or no way is.

    The steps must not lead round in a ring.
    """
    way = []
    while way is not None and residue.surplus[start] > 0:
        way = way_to_lack(residue, steps, way, start)
        if way is not None:
            send_along(residue, way, start)
            way = open_part(residue, way)


def sent(web, first, last, much):
    """The residue of a flow from the first node to the last of this amount, or of the greatest one if that is less.

    What can't flow is left as the surplus of the first node.
    """
    residue = Residue(web)
    residue.surplus[first] = much
    residue.surplus[last] = -much
    levels = levels_from(residue, first)
    # Each round takes the shortest ways alone and leaves only longer ones, so there are no more rounds than
    # nodes, however great the bounds are.
    while residue.surplus[first] > 0 and last in levels:
        send_on(residue, steps_up(residue, levels), first)
        levels = levels_from(residue, first)
    return residue


def most_sent(web, first, last):
    """The residue of a flow of the greatest amount."""
    return sent(web, first, last, sum([bound for tail, head, bound, price in web[1]]))


def most_flow(web, first, last):
    """The greatest amount of a flow from the first node to the last, and a flow of it."""
    flow = most_sent(web, first, last).flow()
    return (amount(web, first, last, flow), flow)


def least_side(web, first, last):
    """The side of the least worth whose nodes all stand in each other one of that worth."""
    # No side of the least worth lets anything more out, so each holds all that can still be reached.
    return tuple(sorted(levels_from(most_sent(web, first, last), first)))
