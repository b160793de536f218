"""What the document tells of rules, passes and types, word by word, slow and by calls that call themselves."""


def is_tuple_tree(shape):
    return not isinstance(shape, str)


def slow_fit(rule, tree):
    """The contents of a rule at the top of a tree, or None; kinds and bars are looked at."""
    contents = {}
    if not slow_shape_fits(rule.left, tree, contents):
        return None
    for hole, content in contents.items():
        if not slow_allowed(rule, hole, content):
            return None
    return contents


def slow_shape_fits(shape, tree, contents):
    if isinstance(shape, str):
        contents[shape] = tree
        return True
    if shape[0] != tree[0] or len(shape) != len(tree):
        return False
    return all([slow_shape_fits(one, other, contents) for one, other in zip(shape[1:], tree[1:])])


def slow_labels(tree):
    """The labels that stand in a tree, but not beneath a keep."""
    found = {tree[0]}
    if tree[0] != "keep":
        for child in tree[1:]:
            found |= slow_labels(child)
    return found


def slow_allowed(rule, hole, content):
    kind = rule.kind(hole)
    if kind is not None and content[0] not in kind:
        return False
    return not slow_labels(content) & set(rule.bar(hole))


def at(tree, place):
    for k in place:
        tree = tree[k + 1]
    return tree


def all_places(shape):
    found = [()]
    if not isinstance(shape, str):
        for k, child in enumerate(shape[1:]):
            found.extend((k,) + place for place in all_places(child))
    return found


def label_spots(shape):
    return [place for place in all_places(shape) if not isinstance(at(shape, place), str)]


def hole_spots(shape):
    return [(at(shape, place), place) for place in all_places(shape) if isinstance(at(shape, place), str)]


def beneath_keep(tree, place):
    return any(at(tree, place[:n])[0] == "keep" for n in range(len(place)))


def slow_done(book, tree):
    """Place by place, as [18] tells it."""
    order = all_places(tree)
    if book.below:
        order = sorted(order, key=lambda place: (-len(place), place))
    covered = set()
    found = []
    for place in order:
        if beneath_keep(tree, place):
            continue
        for index, rule in enumerate(book.rules):
            spots = {place + spot for spot in label_spots(rule.left)}
            if slow_fit(rule, at(tree, place)) is None:
                continue
            if book.below and spots & covered:
                continue
            if not book.below and place in covered:
                continue
            found.append((place, index))
            covered |= spots
            break
    return sorted(found)


def slow_pass(book, tree):
    """The pair of what comes of a tree and the dict of origins, unordered."""
    done = dict(slow_done(book, tree))

    def made(place, kept):
        piece = at(tree, place)
        if place in done and not kept:
            rule = book.rules[done[place]]
            where = dict(hole_spots(rule.left))

            def written(shape):
                if isinstance(shape, str):
                    return made(place + where[shape], False)
                beneath = [written(child) for child in shape[1:]]
                return grown(shape[0], ("new", place, done[place]), beneath)
            return written(rule.right)
        kept = kept or piece[0] == "keep"
        return grown(piece[0], ("old", place), [made(place + (k,), kept) for k in range(len(piece) - 1)])

    return made((), False)


def grown(label, origin, beneath):
    tree = (label,) + tuple(tree for tree, _ in beneath)
    origins = {(): origin}
    for k, (_, inner) in enumerate(beneath):
        for place, told in inner.items():
            origins[(k,) + place] = told
    return tree, origins


def slow_runs(books, tree):
    for book in books:
        tree = slow_pass(book, tree)[0]
    return tree


def slow_parts(book):
    """The list of triples (index, place, piece of the left shape)."""
    return [(index, place, at(rule.left, place)) for index, rule in enumerate(book.rules)
            for place in label_spots(rule.left)]


def slow_part_fits(book, part, tree):
    index, _, shape = part
    contents = {}
    if not slow_shape_fits(shape, tree, contents):
        return False
    return all([slow_allowed(book.rules[index], hole, content) for hole, content in contents.items()])


def slow_type(books, tree):
    """The type of a tree, as [35] tells it."""
    if not books:
        return ()
    book = books[0]
    barred = {label for rule in book.rules for hole in rule.holes() for label in rule.bar(hole)}
    within = tuple(sorted(slow_labels(tree) & barred))
    fitting = [part for part in slow_parts(book) if slow_part_fits(book, part, tree)]
    free = ()
    if book.below:
        taken = set()
        for place, index in slow_done(book, tree):
            taken |= {place + spot for spot in label_spots(book.rules[index].left)}
        free = tuple(sorted((index, place) for index, place, shape in fitting
                            if not taken & set(label_spots(shape))))
    came = ()
    if books[1:]:
        gaps = {()}
        for _, place, shape in fitting:
            if place != ():
                gaps |= {gap for _, gap in hole_spots(shape)}
        came = tuple((place, slow_type(books[1:], slow_pass(book, at(tree, place))[0])) for place in sorted(gaps))
    return (tree[0], within, tuple(sorted((index, place) for index, place, _ in fitting)), free, came)
