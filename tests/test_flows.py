import itertools
import random
import unittest

from chargeyard.flows import Net


def least_cut(nodes, edges):
    """The least room of edges that part node 0 from the last one, found by trying all sides."""
    inner = range(1, nodes - 1)
    cuts = []
    for choice in itertools.product((False, True), repeat=len(inner)):
        side = {0} | {node for node, is_in in zip(inner, choice) if is_in}
        cuts.append(sum(room for (start, end), room in edges.items() if start in side and end not in side))
    return min(cuts)


def filled(nodes, edges):
    net = Net()
    for (start, end), room in edges.items():
        net.lay(start, end, room)
    net.fill(0, nodes - 1)
    return net


class NetTest(unittest.TestCase):
    def test_no_edge(self):
        net = filled(2, {})
        self.assertEqual(net.flow(0, 1), 0)
        self.assertEqual(list(net.reached(0)), [0])

    def test_one_edge(self):
        net = filled(2, {(0, 1): 7})
        self.assertEqual(net.flow(0, 1), 7)
        self.assertEqual(list(net.reached(0)), [0])

    def test_room_that_is_left(self):
        net = filled(3, {(0, 1): 7, (1, 2): 4})
        self.assertEqual([net.flow(0, 1), net.flow(1, 2)], [4, 4])
        self.assertEqual(sorted(net.reached(0)), [0, 1])

    def test_a_flow_is_led_back(self):
        # The shortest way takes the edge 1 to 4, which later has to be given back.
        edges = {(0, 1): 1, (1, 4): 1, (4, 7): 1, (0, 2): 1, (2, 3): 1, (3, 4): 1, (1, 5): 1, (5, 6): 1, (6, 7): 1}
        net = filled(8, edges)
        self.assertEqual(net.flow(4, 7) + net.flow(6, 7), 2)
        self.assertEqual(net.flow(1, 4), 0)

    def test_great_rooms_around_a_small_one(self):
        great = 10 ** 299
        net = filled(4, {(0, 1): great, (0, 2): great, (1, 2): 1, (1, 3): great, (2, 3): great})
        self.assertEqual(net.flow(1, 3) + net.flow(2, 3), 2 * great)

    def test_made_up_ones(self):
        source = random.Random(20)
        for _ in range(200):
            nodes = source.randint(2, 7)
            pairs = list(itertools.combinations(range(nodes), 2))
            edges = {pair: source.randint(0, 9) for pair in source.sample(pairs, source.randint(0, len(pairs)))}
            net = filled(nodes, edges)
            flows = {pair: net.flow(*pair) for pair in edges}
            for pair, room in edges.items():
                self.assertTrue(0 <= flows[pair] <= room)
            for node in range(1, nodes - 1):
                coming = sum(flow for (_, end), flow in flows.items() if end == node)
                going = sum(flow for (start, _), flow in flows.items() if start == node)
                self.assertEqual(coming, going)
            through = sum(flow for (start, _), flow in flows.items() if start == 0)
            self.assertEqual(through, least_cut(nodes, edges))
            side = net.reached(0)
            self.assertEqual(through, sum(room for (a, b), room in edges.items() if a in side and b not in side))


if __name__ == "__main__":
    unittest.main()
