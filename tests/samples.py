"""Objects and plain, slow answers that the tests compare the program with."""

DEEPEST = 300


def nested_list(inner, depth=DEEPEST):
    for _ in range(depth):
        inner = [inner]
    return inner


def nested_tuple(inner, depth=DEEPEST):
    for _ in range(depth):
        inner = (inner,)
    return inner


def nested_dict(inner, depth=DEEPEST):
    for _ in range(depth):
        inner = {"a": inner}
    return inner


def objects():
    """Some of any objects, new ones each time."""
    return [
        0, 1, 2, -1, 7, 10 ** 40, -(10 ** 5000), True, False, None,
        "", "a", "one", "keep", "?x", "a b", "A", "\n", "a" * 9, "x" * 2000,
        (), (0,), ("one",), ("one", 0), ("neg", ("one",)), (True,), (None,), ((),),
        [], [0], ["one"], ["one", 0], ["neg", ["one"]], [True], [None], [[]],
        {}, {0: 1}, {"one": 0}, {"a": [1, {"b": ()}]}, {(): {}},
        nested_list(0), nested_list("one"), nested_tuple(()), nested_dict(None),
        ["neg", nested_list("one", 299)],
    ]


def is_integer(thing):
    return isinstance(thing, int) and not isinstance(thing, bool)


def as_lists(tree):
    """The tree as lists throughout."""
    return [tree[0]] + [as_lists(child) for child in tree[1:]]


def as_mixed(tree, turn=0):
    """The tree as lists and tuples in turn."""
    kind = (list, tuple)[turn % 2]
    return kind([tree[0]] + [as_mixed(child, turn + n) for n, child in enumerate(tree[1:], 1)])


def chain(label, length, end):
    """So many nodes with one child right above one another, and an end beneath them."""
    for _ in range(length):
        end = (label, end)
    return end


def only_tuples(tree):
    """Whether a tree is made of tuples with a string ahead, at any depth."""
    waiting = [tree]
    while waiting:
        node = waiting.pop()
        if not isinstance(node, tuple) or not isinstance(node[0], str):
            return False
        waiting.extend(node[1:])
    return True


def slow_size(tree):
    return 1 + sum(slow_size(child) for child in tree[1:])


def slow_places(tree):
    found = [()]
    for k, child in enumerate(tree[1:]):
        found.extend((k,) + place for place in slow_places(child))
    return found


def slow_text(tree):
    if len(tree) == 1:
        return tree[0]
    return tree[0] + "(" + ", ".join(slow_text(child) for child in tree[1:]) + ")"


def slow_is_less(labels, one, other):
    """The order of trees, word by word as the document tells it."""
    if slow_size(one) != slow_size(other):
        return slow_size(one) < slow_size(other)
    if one[0] != other[0]:
        return labels.index(one[0]) < labels.index(other[0])
    for left, right in zip(one[1:], other[1:]):
        if slow_is_less(labels, left, right):
            return True
        if slow_is_less(labels, right, left):
            return False
    return False


def slow_trees(rows, nodes):
    """All trees with so many nodes, in no order that matters."""
    found = []
    for label, number in list(rows) + [("keep", 1)]:
        if number == 0 and nodes == 1:
            found.append((label,))
        if number == 1 and nodes > 1:
            found.extend((label, child) for child in slow_trees(rows, nodes - 1))
        if number == 2:
            for many in range(1, nodes - 1):
                for first in slow_trees(rows, many):
                    for second in slow_trees(rows, nodes - 1 - many):
                        found.append((label, first, second))
    return found
