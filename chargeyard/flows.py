"""The greatest flow through a net, and the net of a yard and guests: from guests through turns and lines to line 0."""

from chargeyard.yards import above_of, bound_at, is_there, line_count, line_of, most_of, turns_of, want_of

START = ("start",)
END = ("end",)


class Net:
    """Edges between nodes, each with the room that is left on it.

    Edges come in pairs, 2 * k and 2 * k + 1: the second one leads back, and its room is what flows on the first.
    """

    def __init__(self):
        self.ends = []
        self.rooms = []
        self.leaving = {}
        self.laid = {}

    def lay(self, start, end, room):
        self.laid[(start, end)] = len(self.ends)
        self.lay_one(start, end, room)
        self.lay_one(end, start, 0)

    def lay_one(self, start, end, room):
        self.leaving.setdefault(start, []).append(len(self.ends))
        self.ends.append(end)
        self.rooms.append(room)

    def flow(self, start, end):
        if (start, end) not in self.laid:
            return 0
        return self.rooms[self.laid[(start, end)] ^ 1]

    def reached(self, start):
        """The nodes to which room is left, by steps rising: a dict to the edge by which one gets there."""
        edges = {start: None}
        latest = [start]
        while latest:
            further = []
            for node in latest:
                for edge in self.leaving.get(node, []):
                    if self.rooms[edge] > 0 and self.ends[edge] not in edges:
                        edges[self.ends[edge]] = edge
                        further.append(self.ends[edge])
            latest = further
        return edges

    def push(self, way):
        amount = min([self.rooms[edge] for edge in way])
        for edge in way:
            self.rooms[edge] -= amount
            self.rooms[edge ^ 1] += amount

    def fill(self, start, end):
        edges = self.reached(start)
        # Always a way of the fewest steps: so how often one is pushed along hangs on the net's size alone,
        # not on how great the numbers are.
        while end in edges:
            self.push(self.way_to(edges, end))
            edges = self.reached(start)

    def way_to(self, edges, end):
        way = []
        edge = edges[end]
        while edge is not None:
            way.append(edge)
            edge = edges[self.ends[edge ^ 1]]
        return way


def guest_node(number):
    return ("guest", number)


def line_node(line, turn):
    return ("line", line, turn)


def lay_guest(net, yard, number, guest):
    net.lay(START, guest_node(number), want_of(guest))
    for turn in range(turns_of(yard)):
        if is_there(guest, turn):
            net.lay(guest_node(number), line_node(line_of(guest), turn), most_of(guest))


def lay_turn(net, yard, turn):
    net.lay(line_node(0, turn), END, bound_at(yard, 0, turn))
    for line in range(1, line_count(yard)):
        net.lay(line_node(line, turn), line_node(above_of(yard, line), turn), bound_at(yard, line, turn))


def filled_net(yard, guests):
    """The net of a yard and guests, as much flowing through it as can."""
    net = Net()
    for number, guest in enumerate(guests):
        lay_guest(net, yard, number, guest)
    for turn in range(turns_of(yard)):
        lay_turn(net, yard, turn)
    net.fill(START, END)
    return net


def takes_by(net, yard, number, guest):
    return [net.flow(guest_node(number), line_node(line_of(guest), turn)) for turn in range(turns_of(yard))]


def greatest_filling(yard, guests):
    net = filled_net(yard, guests)
    return [takes_by(net, yard, number, guest) for number, guest in enumerate(guests)]


def guests_reached(yard, guests):
    """The guests that lack, and those whose takes could pass to one that lacks, in however many steps: a set."""
    edges = filled_net(yard, guests).reached(START)
    return [number for number in range(len(guests)) if guest_node(number) in edges]
