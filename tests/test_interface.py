"""The interface of the document: names, arguments, default values, and where each thing is defined."""

import importlib
import inspect
import unittest

FUNCTIONS = {
    "names": ["is_small_name(name)", "is_capital_name(name)", "fresh_name(stem, taken)"],
    "terms": ["places_of(term)", "parts_of(term)", "unknowns_of(term)", "part_at(term, place)",
              "replace_at(term, place, part)", "fill_term(term, filling)", "term_size(term)", "term_text(term)"],
    "clauses": ["make_literal(sign, left, right)", "literal_text(literal)", "opposite(literal)",
                "make_clause(literals)", "fill_clause(clause, filling)", "clause_text(clause)",
                "clause_unknowns(clause)", "is_ground(clause)", "always_true(clause)"],
    "sentences": ["free_unknowns(sentence)", "quantifier_depth(sentence)", "fill_sentence(sentence, filling)"],
    "steps": ["fill_step(clause, pairs)", "replace_step(first, index, side, second, target, place)",
              "drop_step(clause)", "factor_step(clause, index, side, target, target_side)", "either_step(literal)"],
    "lines": ["first_wrong(signature, given, rows)", "judge_lines(signature, given, rows)", "cut_lines(rows)",
              "given_used(rows)"],
    "scanning": ["scan(text)"],
    "reading": ["read_term(text, signature, unknowns=())", "read_sentence(text, signature, unknowns=())",
                "read_book(text)"],
    "writing": ["sentence_text(sentence)", "book_text(book)"],
    "worlds": ["world_text(world)"],
    "truth": ["term_value(world, term, values)", "sentence_true(world, sentence, values=None)",
              "book_true(world, book)", "literal_true(world, literal, values)", "clause_true(world, clause)",
              "clauses_true(world, clauses)", "false_values(world, clause)"],
    "going": ["count_worlds(signature, size)", "world_number(world)", "world_at(signature, size, number)",
              "worlds_of_size(signature, size)"],
    "likeness": ["renamed(world, places)", "least_form(world)", "reduct(world, signature)",
                 "expanded(world, signature, tables)", "alike(first, second)"],
    "shaping": ["negation_form(sentence)", "step_result(word, sentence, place, name='')", "negation_steps(sentence)",
                "narrowing_steps(sentence)"],
    "forms": ["spread(sentence)", "form_of(book)"],
    "choices": ["with_choices(world, form)"],
    "formsteps": ["first_wrong_step(book, steps)", "judge_form(book, steps, clauses)"],
    "matching": ["match_term(pattern, term, filling=None)", "match_literal(pattern, literal, filling=None)",
                 "subsumes(first, second)", "variants(first, second)", "unify(*terms)"],
    "reducing": ["needed_clauses(clauses)"],
    "orders": ["plain_order(signature)", "sorted_terms(order, sides)"],
    "clauseorders": ["compare_literals(order, one, two, /)", "compare_clauses(order, one, two, /)",
                     "greater_side(order, literal)", "greatest_index(order, clause)", "descending(order, clause)",
                     "sorted_clauses(order, clauses)"],
    "rewriting": ["normal(rules, side, /)", "true_by(rules, clause)"],
    "inferring": ["head_of(order, clause)", "join(order, first, second)", "factors(order, clause)",
                  "needless(clauses, clause)", "covered(order, clauses, clause)", "is_saturated(order, clauses)",
                  "simpler(order, clauses, clause)", "simplify(clauses, clause, step)"],
    "hearts": ["saturate(signature, order, clauses, *, picks=())", "refutation(heart)"],
    "groundworlds": ["rules_of(order, clauses)", "world_of(signature, order, clauses)"],
    "partial": ["instances(clauses, size)"],
    "growing": ["most_nodes(signature, limit)", "grow(signature, clauses, limit, *, picks=(), elder_every=0)"],
    "trees": ["first_fault(signature, clauses, limit, tree)", "judge_tree(signature, clauses, limit, tree)",
              "tree_nodes(tree)", "has_beyond(tree)", "clauses_used(tree)", "cut_tree(signature, clauses, tree)"],
    "treetext": ["tree_text(tree)", "read_tree(text)"],
    "treelines": ["lines_of(signature, clauses, tree)"],
    "kinds": ["names_in(book)", "ground_terms(book)", "listing(book)", "is_single(book)", "is_prefix(book)",
              "is_linked(book)", "kinds_of(book)", "enough(book, kind)", "told_size(book)"],
    "sorts": ["cases_of(book)", "case_of(book, world)", "case_size(case)", "small_world(book, case)",
              "small_worlds(book)", "least_case(book)", "partner(book, first, second, thing, *, picked=())"],
    "casepapers": ["case_paper(book)", "cases_before_paper(book, size)", "judge_cases(book, paper)",
                   "judge_cases_before(book, size, paper)"],
    "shrinking": ["shrink(book, kind, world)", "cut_world(world, things)"],
    "fillings": ["named_signature(signature)", "closed_terms(signature, depth)"],
    "answers": ["decided_clauses(form)", "decided_origins(form)", "judge_answer(book, answer)"],
    "deciders": ["decide(book, rounds=None, *, picks=(), elder_every=0, deal=(1, 0), cases=True)",
                 "rounds_enough(book, *, deal=(1, 0))"],
    "questions": ["follows(book, sentence, rounds=None, *, picks=(), deal=(1, 0))",
                  "independent(book, index, rounds=None)", "sentences_used(book, paper)", "least_at_odds(book, rounds)"],
    "benches": ["replay(signature, deeds)"],
    "desk": ["run(text, rounds=200)"],
}
METHODS = {
    ("books", "Signature"): ["__init__(self, functions, relations)", "has(self, name)", "arity(self, name)",
                             "constants(self)", "extended(self, functions)", "check_term(self, term, unknowns)",
                             "check_sentence(self, sentence, unknowns=())"],
    ("books", "Book"): ["__init__(self, signature, sentences)", "with_sentence(self, sentence)", "without(self, index)"],
    ("worlds", "World"): ["__init__(self, signature, size, tables)", "value(self, name, args)",
                          "holds(self, name, args)", "table(self, name)", "with_table(self, name, entries)"],
    ("errors", "BadText"): ["__init__(self, line, column)"],
    ("forms", "Form"): ["__init__(self, book)", "__iter__(self)"],
    ("orders", "Order"): ["__init__(self, signature, weights, ranking)", "weight(self, side)",
                          "is_greater(self, one, other)", "compare(self, one, other)"],
    ("hearts", "Heart"): ["__init__(self, signature, order, picks=())", "add(self, clause)", "step(self)",
                          "has_ended(self)"],
    ("partial", "Partial"): ["__init__(self, signature, clauses)", "__iter__(self)", "is_free(self, cell)",
                             "ways(self, cell)", "with_cell(self, cell, entry)", "read_term(self, term, values)",
                             "read_literal(self, literal, values)", "read_clause(self, clause, values)"],
    ("growing", "Grower"): ["__init__(self, signature, clauses, limit, *, picks=(), elder_every=0)", "step(self)",
                            "has_ended(self)"],
    ("fillings", "Fillings"): ["__init__(self, signature, clauses, picks=())", "step(self)", "has_ended(self)",
                               "paper(self)"],
    ("answers", "Answer"): ["__init__(self, verdict, *, world=None, paper=None, rounds=0)"],
    ("deciders", "Decider"): ["__init__(self, book, *, picks=(), elder_every=0, deal=(1, 0), cases=True)", "step(self)",
                              "has_answer(self)", "run(self, rounds=None)"],
    ("benches", "Bench"): ["__init__(self, signature)", "labels(self)", "derived(self)", "sentence(self, label)",
                           "book(self)", "full_book(self)", "add(self, label, sentence)", "drop(self, label)",
                           "derive(self, label, sentence, rounds=None)", "ask(self, rounds=None)", "deeds(self)",
                           "undo(self)"],
}
# The attributes of an object that was made from a book of one sentence, with their kinds.
ATTRIBUTES = {
    "Grower": {"limit": int, "opened": int, "world": None, "tree": None, "beyond": bool},
    "Fillings": {"signature": "Signature", "heart": "Heart", "put_in": list, "world": None},
    "Answer": {"verdict": str, "world": None, "paper": None, "rounds": int},
    "Decider": {"book": "Book", "form": "Form", "clauses": tuple, "told": int, "rounds": int, "limit": int,
                "answer": None, "found": None},
    "Bench": {"reused": int},
}
GENERATORS = [("going", "worlds_of_size"), ("shaping", "negation_steps"), ("shaping", "narrowing_steps"),
              ("inferring", "factors"), ("partial", "instances"), ("sorts", "small_worlds")]
ERRORS = ["BadName", "BadArity", "UnknownName", "BadTerm", "BadSentence", "BadPlace", "BadStep", "BadWorld",
          "BadOrder", "NotOfKind", "BadDeed", "BadText"]


def module(name):
    return importlib.import_module("worldorpaper." + name)


class Interface(unittest.TestCase):
    def test_functions(self):
        for name, expected in FUNCTIONS.items():
            for text in expected:
                function = getattr(module(name), text.split("(")[0])
                self.assertEqual(function.__name__ + str(inspect.signature(function)), text)
                self.assertEqual(function.__module__, "worldorpaper." + name)

    def test_methods(self):
        for (name, owner), expected in METHODS.items():
            for text in expected:
                function = vars(getattr(module(name), owner))[text.split("(")[0]]
                self.assertEqual(function.__name__ + str(inspect.signature(function)), text)

    def test_class_methods_and_properties(self):
        world = module("worlds").World
        self.assertIsInstance(vars(world)["blank"], classmethod)
        self.assertEqual(str(inspect.signature(world.blank)), "(signature, size)")
        self.assertIsInstance(vars(world)["things"], property)
        order = module("orders").Order
        self.assertIsInstance(vars(order)["ranked"], classmethod)
        self.assertEqual(str(inspect.signature(order.ranked)), "(signature, ranking)")
        self.assertEqual((vars(order)["LIGHTEST"], vars(order)["HEAVIEST"]), (1, 9))
        self.assertIsInstance(vars(module("hearts").Heart)["kept_clauses"], property)

    def test_attributes_of_new_objects(self):
        book = module("reading").read_book("relation P 1\nsentence all x. P(x)")
        signature, clauses = book.signature, module("forms").form_of(book).clauses
        objects = [module("growing").Grower(signature, clauses, 1), module("fillings").Fillings(signature, clauses),
                   module("answers").Answer("open"), module("deciders").Decider(book), module("benches").Bench(signature)]
        for thing in objects:
            for name, kind in ATTRIBUTES[type(thing).__name__].items():
                found = getattr(thing, name)
                if kind is None:
                    self.assertIsNone(found, name)
                elif isinstance(kind, str):
                    self.assertEqual(type(found).__name__, kind, name)
                else:
                    self.assertIs(type(found), kind, name)

    def test_generators(self):
        for name, function in GENERATORS:
            self.assertTrue(inspect.isgeneratorfunction(getattr(module(name), function)), function)

    def test_top(self):
        self.assertEqual(module("terms").TOP, ("",))

    def test_errors(self):
        errors = module("errors")
        self.assertEqual(errors.WorldOrPaperError.__bases__, (ValueError,))
        for name in ERRORS:
            self.assertEqual(getattr(errors, name).__bases__, (errors.WorldOrPaperError,))
        error = errors.BadText(3, 14)
        self.assertEqual((error.line, error.column), (3, 14))
        self.assertIsInstance(str(error), str)
