"""Terms as nodes: what stands in many places of terms may be one node, and is gone through once then."""

from proofsizes.terms import is_integer, name_key, sides_of


class Node:
    """A term: the name of an unknown or a compound, or a constant; and its parts, None of an unknown.

    Nodes are the same to Python only if they are one; terms that are alike may be unlike nodes.
    """

    def __init__(self, name, inner, is_ground):
        self.name = name
        self.inner = inner
        self.is_ground = is_ground


def unknown_node(name):
    """The unknown with a name."""
    return Node(name, None, False)


def made_node(name, inner):
    """The compound with a name and a tuple of parts; without parts a constant."""
    return Node(name, inner, all([part.is_ground for part in inner]))


def rebuilt(node, built):
    """A compound with other parts, as far as a dict tells them; it itself if it has the same ones then."""
    inner = tuple([built.get(part, part) for part in node.inner])
    return node if inner == node.inner else made_node(node.name, inner)


def are_headed_alike(one, other):
    """Whether two terms are the same constant, or compounds of one name with as many parts."""
    if one.inner is None or other.inner is None:
        return False
    return one.name == other.name and len(one.inner) == len(other.inner)


def unlike_nodes(nodes):
    """The list of all unlike nodes that stand in a row of such, each behind its parts, from the left."""
    found = {}
    waiting = list(nodes)[::-1]
    while waiting:
        node = waiting[-1]
        inner = []
        if node.inner and node not in found:
            inner = [part for part in node.inner if part not in found]
        if inner:
            waiting.extend(inner[::-1])
        else:
            found[node] = True
            waiting.pop()
    return list(found)


def open_nodes(nodes):
    """The list of those in which unknowns stand."""
    found = {}
    waiting = [node for node in nodes if not node.is_ground][::-1]
    while waiting:
        node = waiting[-1]
        inner = []
        if node.inner and node not in found:
            inner = [part for part in node.inner if not part.is_ground and part not in found]
        if inner:
            waiting.extend(inner[::-1])
        else:
            found[node] = True
            waiting.pop()
    return list(found)


def names_in(nodes):
    """The names of the unknowns of a row of terms, each once, as they come first."""
    return list({node.name: True for node in open_nodes(nodes) if node.inner is None})


def ascending_names(nodes):
    """The names of the unknowns of a row of terms, ascending."""
    return sorted(names_in(nodes), key=name_key)


def numbered(names, first):
    """A dict from names to unknowns that are named by integers, from a first one on."""
    return {name: unknown_node(first + at) for at, name in enumerate(names)}


def put_in(nodes, worth):
    """The list of terms with the terms of a dict in place of the unknowns that it names."""
    built = {}
    for node in open_nodes(nodes):
        built[node] = worth.get(node.name, node) if node.inner is None else rebuilt(node, built)
    return [built.get(node, node) for node in nodes]


def paired(sides):
    """The list of pairs whose sides stand in a row, one behind the other."""
    return list(zip(sides[::2], sides[1::2]))


def put_in_pairs(pairs, worth):
    """A list of pairs with the terms of a dict put in."""
    return paired(put_in(sides_of(pairs), worth))


def unused_integer(nodes):
    """An integer from 0 on; it and all above it stand nowhere in a row of terms."""
    standing = [node.name for node in unlike_nodes(nodes) if node.inner == () and is_integer(node.name)]
    return max([0] + [number + 1 for number in standing])


def unlike_constants(names, nodes):
    """A dict from names to unlike constants that stand in none of the terms."""
    first = unused_integer(nodes)
    return {name: made_node(first + at, ()) for at, name in enumerate(names)}


def count_signs(nodes):
    """How many constants, unknowns and compounds stand in a row of terms, all together."""
    counts = {}
    for node in unlike_nodes(nodes):
        counts[node] = 1 + sum([counts[part] for part in node.inner or ()])
    return sum([counts[node] for node in nodes])


def are_alike(pairs):
    """Whether both sides of all pairs are the same as they stand."""
    met = {}
    waiting = list(pairs)
    while waiting:
        one, other = waiting.pop()
        if one == other:
            continue
        if one.inner is None or other.inner is None:
            if one.inner != other.inner or one.name != other.name:
                return False
        elif not are_headed_alike(one, other):
            return False
        elif one.inner and (one, other) not in met:
            met[one, other] = True
            waiting.extend(list(zip(one.inner, other.inner)))
    return True


def matched(patterns, nodes, worth):
    """More than a dict's terms for unknowns, by which patterns are the terms; None without any.

    The terms' own unknowns stand for themselves, so names may be shared.
    """
    found = dict(worth)
    met = {}
    waiting = list(zip(patterns, nodes))
    while waiting:
        pattern, node = waiting.pop()
        if pattern.inner is None:
            if not are_alike([(found.setdefault(pattern.name, node), node)]):
                return None
        elif not are_headed_alike(pattern, node):
            return None
        elif pattern.inner and (pattern, node) not in met:
            met[pattern, node] = True
            waiting.extend(list(zip(pattern.inner, node.inner)))
    return found


def terms_of(nodes):
    """The list of the terms of a row of nodes; what is the same in them is one tuple."""
    numbers = {}
    known = {}
    built = []
    for node in unlike_nodes(nodes):
        inner = node.inner
        key = (node.name, inner and tuple([numbers[part] for part in inner]))
        numbers[node] = known.setdefault(key, len(built))
        if numbers[node] == len(built):
            if inner is None:
                built.append(("?", node.name))
            else:
                built.append((node.name, tuple([built[numbers[part]] for part in inner])) if inner else node.name)
    return [built[numbers[node]] for node in nodes]


def dict_of_terms(worth):
    """The dict with the terms of a dict's nodes."""
    return {name: term for name, term in zip(list(worth), terms_of([worth[name] for name in worth]))}
