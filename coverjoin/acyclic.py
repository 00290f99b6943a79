"""Join trees, reductions, and the knots that queries without a tree have."""

from coverjoin.checks import are_below, check_atom, check_query, is_ascending, is_below, is_pair
from coverjoin.cores import are_together, core, grown, is_ring, shared_by
from coverjoin.errors import BadCut, BadCuts, BadLayout, BadTree, Cyclic, NoKnot


def is_layout_of(many, value):
    """Whether any value is a tuple with a parent for each of so many atoms, one root above all."""
    if not isinstance(value, tuple) or len(value) != many:
        return False
    if not all(is_below(parent, many) for parent in value):
        return False
    roots = [at for at in range(many) if value[at] == at]
    return len(roots) == 1 and all(way_up(value, at)[-1] == roots[0] for at in range(many))


def way_up(layout, at):
    """The atoms from this one up, parent by parent, until one would come again."""
    way = [at]
    while layout[way[-1]] not in way:
        way.append(layout[way[-1]])
    return way


def is_tree_of(atoms, value):
    """Whether any value is a layout in which the atoms with an attribute hang together."""
    if not is_layout_of(len(atoms), value):
        return False
    for attribute in sorted({attribute for atom in atoms for attribute in atom}):
        having = [at for at in range(len(atoms)) if attribute in atoms[at]]
        tops = [at for at in having if value[at] == at or value[at] not in having]
        if len(tops) != 1:
            return False
    return True


def is_layout(query, value):
    check_query(query)
    return is_layout_of(len(query[1]), value)


def is_tree(query, value):
    check_query(query)
    return is_tree_of(query[1], value)


def check_tree(query, tree):
    if not is_tree(query, tree):
        raise BadTree("not a tree of the query")


def shared(query, layout):
    if not is_layout(query, layout):
        raise BadLayout("not a layout of the query")
    atoms = query[1]
    return sum([shared_by(atoms[at], atoms[layout[at]]) for at in range(len(atoms)) if layout[at] != at])


def tree_of(query):
    check_query(query)
    tree = grown(query[1], 0)[1]
    return tree if is_tree(query, tree) else None


def is_acyclic(query):
    return tree_of(query) is not None


def check_acyclic(query):
    if not is_acyclic(query):
        raise Cyclic(knot(query))


def rooted(query, tree, atom):
    check_query(query)
    check_tree(query, tree)
    check_atom(query, atom)
    turned = list(tree)
    way = way_up(tree, atom)
    for k in range(1, len(way)):
        turned[way[k]] = way[k - 1]
    turned[atom] = atom
    return tuple(turned)


def depths(tree):
    """The numbers of links from each atom up to the root."""
    return [len(way_up(tree, at)) - 1 for at in range(len(tree))]


def _is_triple(cut, word):
    return isinstance(cut, tuple) and len(cut) == 3 and isinstance(cut[0], str) and cut[0] == word


def _behind_cut(query, rests, cut):
    """The rests behind the cut, None if any value is none that can be done."""
    many = len(rests)
    if _is_triple(cut, "lone") and is_below(cut[1], query[0]) and is_below(cut[2], many):
        _, attribute, atom = cut
        having = [at for at in range(many) if rests[at] is not None and attribute in rests[at]]
        if having == [atom]:
            left = tuple([other for other in rests[atom] if other != attribute])
            return rests[:atom] + (left,) + rests[atom + 1:]
    if _is_triple(cut, "within") and is_below(cut[1], many) and is_below(cut[2], many):
        _, atom, other = cut
        if atom != other and rests[atom] is not None and rests[other] is not None:
            if shared_by(rests[atom], rests[other]) == len(rests[atom]):
                return rests[:atom] + (None,) + rests[atom + 1:]
    return None


def after(query, cuts):
    check_query(query)
    if not isinstance(cuts, tuple):
        raise BadCuts("not a tuple of cuts")
    rests = query[1]
    for at in range(len(cuts)):
        rests = _behind_cut(query, rests, cuts[at])
        if rests is None:
            raise BadCut(at)
    return rests


def _possible_cuts(query):
    many = len(query[1])
    cuts = [("lone", attribute, atom) for attribute in range(query[0]) for atom in range(many)]
    return cuts + [("within", atom, other) for atom in range(many) for other in range(many)]


def reduction(query):
    check_query(query)
    possible = _possible_cuts(query)
    rests = query[1]
    cuts = []
    at = 0
    while at < len(possible):
        behind = _behind_cut(query, rests, possible[at])
        if behind is None:
            at += 1
        else:
            rests = behind
            cuts.append(possible[at])
            # What could not be done ahead of this cut may be now.
            at = 0
    return tuple(cuts)


def tree_by(query, cuts):
    rests = after(query, cuts)
    left = [at for at in range(len(rests)) if rests[at] is not None]
    if len(left) != 1 or rests[left[0]] != ():
        return None
    parents = left * len(rests)
    for word, atom, other in cuts:
        if word == "within":
            parents[atom] = other
    return tuple(parents)


def _is_lot(query, value):
    if not are_below(value, query[0]) or len(value) < 3 or are_together(query, value):
        return False
    return all(are_together(query, value[:k] + value[k + 1:]) for k in range(len(value)))


def is_knot(query, value):
    check_query(query)
    if not is_pair(value) or not isinstance(value[0], str):
        return False
    word, attributes = value
    if word == "lot":
        return _is_lot(query, attributes)
    if word != "ring" or not is_ring(query, attributes):
        return False
    return attributes[0] == min(attributes) and is_ascending((attributes[1], attributes[-1]))


def knot(query):
    # The first core has the fewest attributes, so of a lot each one less is in an atom, as a
    # lesser lot would have come first: it is a knot, and each knot is a core.
    return core(query)


def knot_store(query):
    found = knot(query)
    if found is None:
        raise NoKnot("the query has a tree")
    word, attributes = found
    return tuple([_knot_table(word, attributes, atom) for atom in query[1]])


def _knot_table(word, attributes, atom):
    held = [attribute for attribute in attributes if attribute in atom]
    rows = _lot_rows(attributes, held) if word == "lot" else _ring_rows(attributes, held)
    full = []
    for row in rows:
        # What is outside of the knot is always 0.
        full.append(tuple([1 if attribute in row else 0 for attribute in atom]))
    return tuple(sorted(full))


def _lot_rows(attributes, held):
    """The attributes with 1 in each row: just one if all but one are held, otherwise at most one.

    So in all of them, but for any one of them, there would be just one 1, which cannot be."""
    ones = [(attribute,) for attribute in held]
    return ones if len(held) == len(attributes) - 1 else [()] + ones


def _ring_rows(attributes, held):
    """The attributes with 1 in each row: neighbours are alike, all but the first and the last one,
    which are unlike. So there is no way round."""
    if len(held) == 0:
        return [()]
    if held == [attributes[0], attributes[-1]]:
        return [(held[0],), (held[1],)]
    return [(), tuple(held)]
