"""Least states for the same set of terms, and contexts that part them."""

from proofsizes.leastterms import least_of, least_terms_of
from proofsizes.states import States, rows_of


def contexts_of(states, reached):
    """For each state a list of what compounds around it have, with all states in the other parts' places."""
    found = {state: [] for state in reached}
    for name, parts in sorted(states.compounds):
        table = states.compounds[name, parts]
        rests = rows_of(reached, parts - 1)
        for part in range(parts):
            for state in reached:
                found[state].extend([table[rest[:part] + (state,) + rest[part:]] for rest in rests])
    return found


def classes_of_states(states, good, reached):
    """The dict from states to numbers of classes of such as can't be parted."""
    contexts = contexts_of(states, reached)
    classes = {state: 1 if state in good else 0 for state in reached}
    many = 0
    while len(set(list(classes.values()))) > many:
        many = len(set(list(classes.values())))
        numbers = {}
        behind = {}
        for state in reached:
            key = (classes[state], tuple([classes[one] for one in contexts[state]]))
            behind[state] = numbers.setdefault(key, len(numbers))
        classes = behind
    return classes


def least_states(states, good):
    """The least states by which the same terms are good, numbered by their least terms, and the good ones of them."""
    reached = list(least_terms_of(states))
    classes = classes_of_states(states, good, reached)
    first = {}
    for state in reached:
        first.setdefault(classes[state], state)
    joined = with_classes(states, classes, first)
    numbers = {state: at for at, state in enumerate(least_of(joined))}
    return renumbered(joined, numbers), [numbers[one] for one in first if first[one] in good]


def with_classes(states, classes, first):
    """The states of classes, told where they aren't always those of all others."""
    other = classes[states.other]
    constants = {one: classes[states.constants[one]] for one in states.constants}
    compounds = {}
    for key in states.compounds:
        table = {}
        for row in rows_of(list(first), key[1]):
            table[row] = classes[states.compounds[key][tuple([first[one] for one in row])]]
        if any([table[row] != other for row in table]):
            compounds[key] = table
    told = {one: constants[one] for one in constants if constants[one] != other}
    return States(len(first), told, other, compounds, other)


def renumbered(states, numbers):
    """The states with other numbers."""
    constants = {one: numbers[states.constants[one]] for one in states.constants}
    compounds = {}
    for key in sorted(states.compounds):
        table = states.compounds[key]
        compounds[key] = {tuple([numbers[one] for one in row]): numbers[table[row]] for row in table}
    other = numbers[states.other]
    return States(states.many, constants, other, compounds, other)


def parting_contexts(states, good, terms):
    """The dict from all pairs of states, the lesser first, to contexts that part them; states are the least ones."""
    pairs = [(one, other) for one in range(states.many) for other in range(one + 1, states.many)]
    found = {pair: () for pair in pairs if (pair[0] in good) != (pair[1] in good)}
    while len(found) < len(pairs):
        new = {}
        for pair in pairs:
            if pair not in found:
                layers = layers_around(states, pair, found)
                if layers is not None:
                    new[pair] = layers
        for pair in new:
            found[pair] = new[pair]
    return {pair: context_of(found[pair], terms) for pair in pairs}


def layers_around(states, pair, found):
    """The layers of a context that parts a pair by a compound around it, which is parted already; None without any.

    A layer is a compound's name, and the states of its parts ahead of the one within, and behind it.
    """
    one, other = pair
    for name, parts in states.compounds:
        table = states.compounds[name, parts]
        for part in range(parts):
            for rest in rows_of(list(range(states.many)), parts - 1):
                first = table[rest[:part] + (one,) + rest[part:]]
                second = table[rest[:part] + (other,) + rest[part:]]
                outer = found.get((min(first, second), max(first, second)))
                if outer is not None:
                    return outer + ((name, rest[:part], rest[part:]),)
    return None


def context_of(layers, terms):
    """The context that has some layers, the outer ones first; terms of states are parts of it as they are."""
    built = ("?", 0)
    for name, ahead, behind in layers[::-1]:
        inner = [terms[state] for state in ahead] + [built] + [terms[state] for state in behind]
        built = (name, tuple(inner))
    return built
