"""Crowds: flows from one end to another that share no packet place, joined by one after another.

A flow goes from node to node: a node (end, beat) is an end with what it knows behind the work of a beat. It goes on
by a packet, which takes one flow alone, or waits a beat, as any number of flows do. That as many flows as can be are
found, one more may also go back where another one goes: then the two exchange the rest of their ways.
"""

from heapq import heappop, heappush


class Move:
    """How a flow that joins goes on from a node: a packet or a wait more in the crowd, or one less."""

    def __init__(self, goal, spot, wait, change):
        self.goal = goal
        self.spot = spot
        self.wait = wait
        self.change = change


class Crowd:
    """Flows from the node start to the end goal: the packet places that they take, and how many wait at a node.

    last is the least beat by which so many flows can arrive.
    """

    def __init__(self, net, start, goal):
        self.net = net
        self.start = start
        self.goal = goal
        self.last = start[1]
        self._size = 0
        self._sent = {}
        self._waits = {}

    def joined(self, until):
        """The crowd with one flow more that arrives by this beat, or as early as can be for None; None without any."""
        came, node = self._search(until)
        if node is None:
            return None
        other = Crowd(self.net, self.start, self.goal)
        other.last = max(self.last, node[1])
        other._size = self._size + 1
        other._sent = {place: True for place in self._sent}
        other._waits = {wait: many for wait, many in self._waits.items()}
        while came[node] is not None:
            node, move = came[node]
            other._take(move)
        return other

    def border(self, until):
        """The packet places by which a flow could leave what it reaches, if no flow more arrives by this beat."""
        came, _ = self._search(until)
        moves = [move for node in came for move in self._packets(node)]
        return [move.spot for move in moves if move.goal not in came and move.goal[1] <= until]

    def parts(self):
        """The flows of the crowd, each a tuple of packet places."""
        sent = {place: True for place in self._sent}
        found = []
        for _ in range(self._size):
            flow = self._flow(sent)
            sent = {place: True for place in sent if place not in flow}
            found.append(flow)
        return tuple(found)

    def _take(self, move):
        """Makes a new crowd, that nobody has seen yet, go by this move."""
        if move.wait is not None:
            self._waits[move.wait] = self._waits.get(move.wait, 0) + move.change
        elif move.change > 0:
            self._sent[move.spot] = True
        else:
            del self._sent[move.spot]

    def _search(self, until):
        """By each node that a flow more can reach the node and the move that lead there, and the first at the goal.

        Nodes are gone through by the latest beat on the way there, so that no flow arrives sooner.
        """
        came = {self.start: None}
        queue = [(self.start[1], self.start)]
        while queue:
            late, node = heappop(queue)
            if node[0] == self.goal:
                return (came, node)
            for move in self._moves(node):
                if move.goal not in came and (until is None or move.goal[1] <= until):
                    came[move.goal] = (node, move)
                    heappush(queue, (max(late, move.goal[1]), move.goal))
        return (came, None)

    def _moves(self, node):
        """All moves from a node of one flow more."""
        end, beat = node
        moves = [move for move in self._packets(node) if move.spot not in self._sent]
        moves.append(Move((end, beat + 1), None, node, 1))
        if self._waits.get((end, beat - 1), 0) > 0:
            moves.append(Move((end, beat - 1), None, (end, beat - 1), -1))
        for number in self.net.ways_to(end):
            way = self.net.ways[number]
            place = (number, beat - way.delay)
            if place in self._sent:
                moves.append(Move((way.source, place[1] - 1), place, None, -1))
        return moves

    def _packets(self, node):
        """The moves by a packet that is sent with what the node knows."""
        end, beat = node
        turn = beat + 1
        ways = [(number, self.net.ways[number]) for number in self.net.ways_from(end)]
        return [Move((way.goal, turn + way.delay), (number, turn), None, 1) for number, way in ways
                if way.phase == turn % self.net.period]

    def _flow(self, sent):
        """The packet places of one flow that takes these alone."""
        node = self.start
        places = []
        while node[0] != self.goal:
            moves = [move for move in self._packets(node) if move.spot in sent]
            places.extend([move.spot for move in moves[:1]])
            # Where no packet goes on, the flow waits: as many go on from a node as come to it.
            node = moves[0].goal if moves else (node[0], node[1] + 1)
        return tuple(places)
