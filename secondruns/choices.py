"""All trees with so many nodes, one behind the other.

A tree is told by its choices, one for each node in the order of the places. A choice is a tuple
(nodes, index, first): the size of the piece at this place, the number of its top label, and the
size of the first one of two children, otherwise 0. Trees of one size stand in the order of their
lists of choices, so the next tree is had by making the last choice that can be made later the
next one, and all choices behind it the first ones. As each language has a label with one child
(keep) and one without, each piece can be begun, so no choice leads to no tree.

`numbers` is the list of the numbers of children of all labels.
"""


def can_begin(children, nodes):
    """Whether a label with so many children can stand at the top of so many nodes."""
    if children == 0:
        return nodes == 1
    return nodes > children


def choice_from(numbers, nodes, start):
    """The first choice for so many nodes whose label is not ahead of number start, or None."""
    for index in range(start, len(numbers)):
        if can_begin(numbers[index], nodes):
            return (nodes, index, 1 if numbers[index] == 2 else 0)
    return None


def choice_behind(numbers, choice):
    """The choice that comes next for as many nodes, or None."""
    nodes, index, first = choice
    if numbers[index] == 2 and first < nodes - 2:
        return (nodes, index, first + 1)
    return choice_from(numbers, nodes, index + 1)


def sizes_beneath(numbers, choice):
    """The sizes of the children, the last child first."""
    nodes, index, first = choice
    if numbers[index] == 0:
        return []
    if numbers[index] == 1:
        return [nodes - 1]
    return [nodes - 1 - first, first]


def choices_begun(numbers, begun, nodes):
    """The choices that are begun so, and behind them the first ones until the tree is whole."""
    made = []
    waiting = [nodes]
    while waiting:
        wanted = waiting.pop()
        if len(made) < len(begun):
            choice = begun[len(made)]
        else:
            choice = choice_from(numbers, wanted, 0)
        made.append(choice)
        waiting.extend(sizes_beneath(numbers, choice))
    return made


def choices_behind(numbers, choices):
    """The choices of the next tree with as many nodes, or None if there is none."""
    for at in reversed(range(len(choices))):
        later = choice_behind(numbers, choices[at])
        if later is not None:
            return choices_begun(numbers, choices[:at] + [later], choices[0][0])
    return None


def tree_chosen(labels, numbers, choices):
    """The tree that is told by these choices."""
    made = []
    for choice in choices[::-1]:
        index = choice[1]
        children = []
        for _ in range(numbers[index]):
            children.append(made.pop())
        made.append((labels[index], *children))
    return made[0]
