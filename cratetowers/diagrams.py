"""Sets of strings of places as diagrams.

A diagram is a tuple of layers, one for each sign of the strings, and a layer is a tuple of nodes. A node is a triple:
for each place the index of the node of the next layer that tells how the string may go on, or NONE. The strings begin
at the node 0 of the first layer; behind the last layer there is one node, the index 0, at which they end. Each node
has a string, no two of a layer have the same strings, and they stand in the order in which the layer ahead names
them: so equal sets have equal diagrams.
"""

from cratetowers.branches import START_BIT, all_below

NONE = -1
BOTH = "both"
EITHER = "either"
WITHOUT = "without"


def diagram_of_choices(choices):
    """Return the diagram of the strings that have as each sign one of those of a choice."""
    return _reduced([[tuple([0 if place in places else NONE for place in "abc"])] for places in choices])


def diagram_of_branch(branch, crates):
    """Return the diagram of the arrangements of a branch."""
    layers = []
    states = [START_BIT]
    for crate in range(crates):
        triples = all_below(branch, crate, states)
        indexes = {}
        layers.append([_indexed(triples[state], indexes, 0) for state in states])
        states = list(indexes)
    # Behind the last crate all ends are alike: the rows are done.
    layers[-1] = [_ended(node) for node in layers[-1]]
    return _reduced(layers)


def _indexed(triple, indexes, nothing):
    """Return the indexes of the items of a triple, each new one with the next index, NONE for nothing."""
    return tuple([NONE if item == nothing else indexes.setdefault(item, len(indexes)) for item in triple])


def _ended(node):
    """Return a node of the last layer with the one node behind it in the place of all others."""
    return tuple([NONE if index == NONE else 0 for index in node])


def joined(one, other, rule):
    """Return the diagram of the strings that are in both, in either, or in the first one without the second one."""
    layers = []
    pairs = [(0 if one[0] else NONE, 0 if other[0] else NONE)]
    for crate, (left, right) in enumerate(zip(one, other)):
        is_last = crate == len(one) - 1
        indexes = {}
        layer = []
        for first, second in pairs:
            triple = [
                pair if _goes_on(pair, rule, is_last) else None
                for pair in zip(_node_at(left, first), _node_at(right, second))
            ]
            layer.append(_indexed(triple, indexes, None))
        layers.append(layer)
        pairs = list(indexes)
    layers[-1] = [_ended(node) for node in layers[-1]]
    return _reduced(layers)


def _node_at(layer, index):
    """Return the node of a layer with an index, for NONE one without strings."""
    return (NONE, NONE, NONE) if index == NONE else layer[index]


def _goes_on(pair, rule, is_last):
    """Tell whether strings that lead to a pair of nodes may be in the joined set, and behind the last sign: are."""
    first, second = pair
    if rule == BOTH:
        return first != NONE and second != NONE
    if rule == EITHER:
        return first != NONE or second != NONE
    return first != NONE and not (is_last and second != NONE)


def _reduced(layers):
    """Return the diagram of what some layers tell, of which nodes may be alike, without strings or out of order."""
    merged = []
    # The last item stands for NONE, which is the index -1.
    indexes = [0, NONE]
    for layer in reversed(layers):
        known = {}
        renamed = []
        for at_a, at_b, at_c in layer:
            node = (indexes[at_a], indexes[at_b], indexes[at_c])
            renamed.append(NONE if node == (NONE, NONE, NONE) else known.setdefault(node, len(known)))
        merged.append(list(known))
        indexes = [*renamed, NONE]
    return _ordered(merged[::-1], indexes[:1])


def _ordered(layers, first):
    """Return the layers with the nodes that are named from the first layer on, in the order in which they are named."""
    ordered = []
    wanted = [index for index in first if index != NONE]
    for layer in layers:
        indexes = {}
        ordered.append(tuple([_indexed(layer[index], indexes, NONE) for index in wanted]))
        wanted = list(indexes)
    return tuple(ordered)


def counts_of(diagram):
    """Return for each layer how many strings go on from each of its nodes, at last those behind all signs.

    Behind the numbers of a layer stands a 0 for NONE, which is the index -1.
    """
    counts = [[1, 0]]
    for layer in reversed(diagram):
        below = counts[-1]
        counts.append([*[below[at_a] + below[at_b] + below[at_c] for at_a, at_b, at_c in layer], 0])
    return counts[::-1]
