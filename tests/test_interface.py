import importlib
import inspect
import os
import re
import unittest

# The interface, module by module, in its order.
LANDED = """
checks: is_query(value), is_store(query, value)
tables: sizes(query, store), is_order(query, value), renamed(query, store, places), restricted(query, store, attribute, number), values_at(query, store, attribute)
answers: answers(query, store), is_answer(query, store, value)
shares: is_shares(query, value), is_cover(query, value, wanted=None), least_terms(query, shares), is_within(query, counts, shares, number), most_within(query, counts, shares), compared_shares(query, counts, one, other)
covers: least_sum(query, exponents, wanted=None), sum_cover(query, exponents, wanted=None), sum_weights(query, exponents, wanted=None), is_sum_weights(query, exponents, value, wanted=None), is_least_sum(query, exponents, cover, weights, wanted=None), is_corner(query, value), is_middle(query, cover, one, other), two_ways(query, cover), exponents_for(query, corner)
bounds: least_cover(query, counts), top_powers(query, counts), are_powers(query, counts, value), is_least_cover(query, counts, cover, powers), beyond_store(query, shares), full_store(query, numbers), tight_store(query, exponents, weights, root), floor_store(query, counts, powers), filled_store(query, store, counts)
keys: are_keys(query, value), broken_key(query, keys, store), keeps_keys(query, keys, store), told_by(query, keys, attributes), telling(query, keys, attributes, attribute), is_telling(query, keys, attributes, attribute, value), two_answers(query, keys, attributes)
colours: key_chain(query, keys, order), chain_reaches(query, keys, order), is_chain_cover(query, keys, order, value), least_chain(query, keys, order, exponents), is_least_chain(query, keys, order, exponents, cover, weights), is_colouring(query, keys, value), colours_at(query, keys, colouring, attributes), colour_store(query, keys, colouring, root), told_first(query, keys), best_colouring(query, keys, exponents), sum_store(root)
tries: Trie(query, store, order, at)
meets: meet(lists), least_stretches(lists), apart(lists), is_paper(lists, value), is_apart(lists, value)
engine: beginnings(query, store, order, level), answers_by(query, store, order), steps_by(query, store, order), asks_by(query, store, order), jumps_by(query, store, order), cut(query, store, order, level)
runs: Run(query, store, order), first_by(query, store, order, most), starts_by(query, store, order, level)
orders: steps_at(query, store, known, attribute), least_left(query, store), least_order(query, store)
pairs: is_plan(query, value), node_table(query, store, atoms, thrifty=False), middles(query, store, plan, thrifty=False), greatest_middle(query, store, plan, thrifty=False)
within: plan_within(query, store, most, thrifty=False), lots_against(query, store, most, thrifty=False), is_against(query, store, most, value, thrifty=False)
cores: is_core(query, value), core(query), steady_plan(query), dear_store(query, core, size), engine_order(query, core)
acyclic: is_layout(query, value), is_tree(query, value), shared(query, layout), rooted(query, tree, atom), after(query, cuts), reduction(query), tree_by(query, cuts), tree_of(query), is_acyclic(query), is_knot(query, value), knot(query), knot_store(query)
reduce: is_program(query, value), run(query, store, program), agree(query, store), program_of(query, tree), live(query, store), joined(query, store, tree), escape(query, program), is_full(query, program)
counts: weights(query, store, tree), is_weights(query, store, tree, value), uses(query, store), count(query, store), trio(query, order), smooth_order(query, wished), dead_end(query, order), kth(query, store, order, place), place_of(query, store, order, answer)
wished: wished_answers(query, store, wished), is_path(query, wished, value), path_of(query, wished), is_wished_tree(query, wished, value), wished_tree(query, wished), traces(query, wished), parts(query, store, wished), path_store(query, wished)
gaps: Walk(query, store, wished, order), Union(lots)
boxes: is_box(many, value), whole(many), unit(point), holds(box, point), overlap(one, other), lies_in(one, other), resolve(one, other, attribute), is_gap(query, store, index, box), trie_gaps(query, store, order)
covering: covers_all(many, boxes, points, value), covered(many, boxes, points)
papers: gaps_met(query, store, order), walk_levels(query, store, order), paper_of(query, store, order), lacks_none(query, store, value), skew(size)
least: widest_gaps(query, store, index), least_gaps(query, store), lie_apart(query, store, value), points_apart(query, store)
hierarchical: atoms_of(query, attribute), is_forest(query, value), hierarchy(query), is_hierarchy(query, value), way_to(query, forest, attribute), sequence(query)
kept: entries(query, store, bits), extensions(query, store, attribute, values), Kept(query, bits)
embedding: embedded(query, pair, matrix, left, right)
bagtrees: is_bag_tree(query, value), bag_at(query, gone, attribute), bags_of(query, order), bag_tree_of(query, order), order_from(query, tree)
widths: weight(query, bag), width(query), width_paper(query), is_width_paper(query, value)
bagplans: bag_cut(query, bag), bag_query(query, tree), bag_store(query, store, tree), by_bags(query, store, tree)
care: care_rules(), joined_by(query, store, without), kept_rows(query, store, without, layout), useful_rows(query, store), taken_by(query, store, value, without), kept_count(query, changes, without), least_case(rule), is_case(rule, value)
texts: query_text(query), store_text(query, store), read_query(text), read_store(query, text), answers_text(query, found)
desk: Desk(query)
"""

METHODS = """
tries.Trie: rows(self), many(self, start), next_numbers(self, start), seek(self, start, number), hole(self, start, number), __contains__(self, value)
runs.Run: next_answer(self), steps(self), asks(self), seek(self, point), leave(self, level)
gaps.Walk: forth(self), count(self), at(self, place), to(self, place), place(self, answer), has(self, answer), steps(self), looks(self)
gaps.Union: forth(self), steps(self)
kept.Kept: store(self), entries(self), count(self), put(self, atom, row), take(self, atom, row), kth(self, place), place(self, answer), ahead(self, answer), following(self, answer), is_answer(self, answer), answers(self)
desk.Desk: store(self), say(self, line)
"""


def listed(text):
    return re.findall(r"(\w+)(\([^)]*\))", text)


class TestInterface(unittest.TestCase):

    def test_names_arguments_defaults_and_places(self):
        for line in LANDED.strip().split("\n"):
            name, _, rest = line.partition(": ")
            module = importlib.import_module("coverjoin." + name)
            for word, arguments in listed(rest):
                thing = getattr(module, word)
                self.assertEqual(str(inspect.signature(thing)), arguments, word)
                self.assertEqual(thing.__module__, module.__name__, word)

    def test_methods_stand_in_the_class_itself(self):
        for line in METHODS.strip().split("\n"):
            name, _, rest = line.partition(": ")
            module, _, word = name.partition(".")
            held = vars(getattr(importlib.import_module("coverjoin." + module), word))
            for method, arguments in listed(rest):
                self.assertEqual(str(inspect.signature(held[method])), arguments, name)

    def test_attributes_of_classes(self):
        from coverjoin.desk import Desk
        from coverjoin.kept import Kept
        from coverjoin.tries import Trie
        query = (2, ((0, 1), (0,)))
        self.assertEqual(Trie(query, ((), ()), (1, 0), 0).attributes, (1, 0))
        self.assertEqual((Kept(query, 7).query, Kept(query, 7).bits), (query, 7))
        self.assertEqual(Desk(query).query, query)

    def test_all_modules_are_listed(self):
        import coverjoin
        names = sorted(name[:-3] for name in os.listdir(os.path.dirname(coverjoin.__file__)) if name.endswith(".py"))
        listed_names = [line.partition(": ")[0] for line in LANDED.strip().split("\n")]
        self.assertEqual(names, sorted(listed_names + ["__init__", "errors", "exact", "masks"]))

    def test_each_imports_only_from_those_ahead(self):
        ahead = ["errors", "exact", "masks"]
        for line in LANDED.strip().split("\n"):
            name = line.partition(": ")[0]
            text = inspect.getsource(importlib.import_module("coverjoin." + name))
            for other in re.findall(r"^from coverjoin\.(\w+) import", text, re.MULTILINE):
                self.assertIn(other, ahead, name)
            ahead.append(name)

    def test_init_defines_nothing(self):
        import coverjoin
        with open(coverjoin.__file__, encoding="utf-8") as file:
            self.assertEqual(file.read().strip(), "")


if __name__ == "__main__":
    unittest.main()
