"""Plans: an order of events, and the tree and the budgets with which it is carried out."""

from askedtrue.errors import BadPlan
from askedtrue.lots import could, touched


class Plan:
    """An order of events, a tree of ends, and the budgets of its lots."""

    def __init__(self, order, net, budgets):
        if not net.is_tree:
            raise BadPlan("tree")
        if not all([net.has_end(event.end) for event in order]):
            raise BadPlan("end")
        if not all([budgets.has_lot(way.lot) for way in net.ways]):
            raise BadPlan("lots")
        self.order = order
        self.net = net
        self.budgets = budgets

    def __eq__(self, other):
        return (isinstance(other, Plan) and self.order == other.order and self.net == other.net
                and self.budgets == other.budgets)

    def with_order(self, order):
        """The plan with another order."""
        return Plan(order, self.net, self.budgets)

    def with_net(self, net):
        """The plan with another net."""
        return Plan(self.order, net, self.budgets)

    def with_budgets(self, budgets):
        """The plan with other budgets."""
        return Plan(self.order, self.net, budgets)

    def route(self, one, other):
        """The route from the end of one event to the end of another one."""
        start = self.order.event(one).end
        goal = self.order.event(other).end
        return self.net.route(start, goal)

    def could(self, one, other):
        """How many packets of this route can come out corrupted at most."""
        return could(self.net, self.budgets, self.route(one, other))

    def touched(self, one, other):
        """The lots of this route, ascending."""
        return touched(self.net, self.route(one, other))
