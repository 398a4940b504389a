"""The cheapest: flows of the least sum with worths that stand for them, and the cheapest rota of a book."""

from lamprota.books import need
from lamprota.bookweb import LIGHT, SEA, rota_by, web_of
from lamprota.webs import send_on, sent

# The slack of one round divided by that of the next one: a greater number makes fewer but longer rounds.
SHRINKING = 16


def flow_sum(web, flow):
    """The sum, over the ties, of the flow times the price."""
    return sum([tie[3] * much for tie, much in zip(web[1], flow)])


def worths_stand(web, flow, worths):
    """True where the worths stand for the flow."""
    for tie, much in zip(web[1], flow):
        tail, head, bound, price = tie
        together = price + worths[tail] - worths[head]
        if (much < bound and together < 0) or (much > 0 and together > 0):
            return False
    return True


class Slope:
    """A residue whose arcs have costs and whose nodes have worths.

    The rise of an arc is its cost and the worth of its tail, less the worth of its head. Where it is below 0 the arc
    leads downhill. Costs are prices times `scale`, which is above the count of nodes.
    """

    def __init__(self, web, residue):
        many, ties = web
        self.residue = residue
        self.scale = many + 1
        self.costs = []
        self.worths = [0] * many
        for tail, head, bound, price in ties:
            self.costs.extend([price * self.scale, -price * self.scale])

    def rise(self, arc):
        """The rise of an arc."""
        heads = self.residue.heads
        return self.costs[arc] + self.worths[heads[arc ^ 1]] - self.worths[heads[arc]]

    def downhill(self, node):
        """The arcs with room that leave a node downhill."""
        return [arc for arc in self.residue.open_arcs(node) if self.rise(arc) < 0]


def fill_downhill(slope):
    """Lets as much flow downhill as there is room for, whatever surplus and lack that makes."""
    residue = slope.residue
    for node in range(len(slope.worths)):
        for arc in slope.downhill(node):
            much = residue.rooms[arc]
            residue.push(arc, much)
            residue.surplus[node] -= much
            residue.surplus[residue.heads[arc]] += much


def add_neighbours(slope, slack, node, far, waiting):
    """Has those wait from which an arc with room leads to a node that is so far."""
    residue = slope.residue
    for arc in residue.leaving[node]:
        back = arc ^ 1
        if residue.rooms[back] > 0:
            length = slope.rise(back) // slack + 1
            waiting.setdefault(far + length, []).append(residue.heads[arc])


def distances(slope, slack):
    """For each node how far it is to one that lacks something; all beyond the furthest surplus count as one further.

    An arc is as long as the count of slacks by which its tail must sink until the arc just leads downhill.
    """
    surplus = slope.residue.surplus
    found = {}
    waiting = {0: [node for node, much in enumerate(surplus) if much < 0]}
    sought = len([much for much in surplus if much > 0])
    far = 0
    # From each surplus there is a way to where something lacks, as the flow ahead of this round had neither; and by
    # the slack of that round it is no longer than some multiple of the count of nodes, so counting up to it is quick.
    while sought > 0:
        row = waiting.setdefault(far, [])
        while row:
            node = row.pop()
            if node not in found:
                found[node] = far
                sought -= 1 if surplus[node] > 0 else 0
                add_neighbours(slope, slack, node, far, waiting)
        far += 1
    return [found.get(node, far) for node in range(len(surplus))]


def sink(slope, slack):
    """Makes worths less, until from each surplus a way leads downhill to where something lacks."""
    for node, far in enumerate(distances(slope, slack)):
        slope.worths[node] -= far * slack


def settle(slope, slack):
    """Changes flow and worths so that no arc with room leads further downhill than the slack."""
    surplus = slope.residue.surplus
    nodes = list(range(len(surplus)))
    fill_downhill(slope)
    while max(surplus) > 0:
        # An arc that leads to a node which sinks further than its tail no longer leads downhill. So arcs downhill
        # never lead round in a ring: there is none behind the filling, and none can come.
        sink(slope, slack)
        steps = [slope.downhill(node) for node in nodes]
        for node in nodes:
            if surplus[node] > 0:
                send_on(slope.residue, steps, node)


def whole_worths(slope):
    """Worths for the prices, of a slope on which no arc with room leads further downhill than 1."""
    # There are more rests than nodes, so one is free. Counted from it no worth is a multiple of the scale, so
    # the 1 by which an arc may lead downhill makes no difference once the worths are divided and rounded down.
    rests = dict([(worth % slope.scale, True) for worth in slope.worths])
    free = min([rest for rest in range(slope.scale) if rest not in rests])
    return tuple([(worth - free) // slope.scale for worth in slope.worths])


def cheapest_flow(web, first, last, much):
    """The least sum of a flow of this amount, such a flow and worths that stand for it; None where there is none."""
    residue = sent(web, first, last, much)
    if residue.surplus[first] > 0:
        return None
    slope = Slope(web, residue)
    slack = max(slope.costs, default=0)
    while slack > 1:
        slack = max(slack // SHRINKING, 1)
        settle(slope, slack)
    flow = residue.flow()
    return (flow_sum(web, flow), flow, whole_worths(slope))


def cheapest(book):
    """The least cost of a rota that keeps the book, such a rota, a flow and worths that stand for it, or None."""
    found = cheapest_flow(web_of(book), SEA, LIGHT, need(book))
    if found is None:
        return None
    least, flow, worths = found
    return (least, rota_by(book, flow), flow, worths)
