"""The names, arguments and places of the interface."""

import doctest
import importlib
import inspect
import unittest
from pathlib import Path

FUNCTIONS = """
    schemes: check_scheme(scheme) check_book(scheme,book) check_store(scheme,store) says_nothing(scheme,dependency)
    texts: write_book(book) read_book(scheme,text)
    holding: keeps(scheme,store,dependency) keeps_all(scheme,store,book) least_breach(scheme,store,dependency)
    joining: projection(rows,columns) join(width,projections,parts) stray_rows(width,rows,parts)
        loss(scheme,book,table,parts)
    completing: chase(scheme,book,store) sure_rows(scheme,book,store) clash(scheme,book,store)
        judge_clash(scheme,book,store,steps)
    following: start(scheme,dependency) verdict(scheme,book,dependency) follows(scheme,book,dependency)
        lean_derivation(scheme,book,dependency,steps) judge(scheme,book,dependency,steps)
    keys: closure(scheme,book,table,columns) keys(scheme,book,table) basis(scheme,book,table,columns)
    forms: form_breach(scheme,book,table) is_redundant(scheme,book,store,table,row,column) redundant_cell(scheme,book)
        parted(scheme,book,table)
    exact: exact_table(scheme,book)
    trees: tree_of(parts) is_tree(parts,pairs) dealt_halves(parts,pairs) not_a_tree(parts)
    mining: settled(width,rows) found_keys(width,rows) held_inclusions(scheme,store,table,other)
        dealt(width,rows,columns)
    works: Works(scheme,book,store) replayed(scheme,book,store,journal)
    books: alike(scheme,one,other) lean_book(scheme,book) supports(scheme,book,dependency)
        all_inclusions(scheme,book,table,other)
    functional: cover(scheme,book) synthesis(scheme,book)
    reducing: reduced(parts,pairs,projections) join_count(parts,pairs,projections) agree_in_pairs(parts,projections)
        agreeing_without_join(parts)
    storetexts: write_store(tables) read_store(text) write_steps(steps) read_steps(text)
    rules: judge_rules(width,book,lines) derived(width,book,dependency)
    answers: answers(scheme,store,question) sure_answers(scheme,book,store,question)
    questiontexts: write_question(question) read_question(text)
    cascades: taken_away(scheme,book,store,table,row) put_in(scheme,book,store,table,row)
"""
METHODS = {"do": ["self", "deed"], "book": ["self"], "store": ["self"], "journal": ["self"]}


class InterfaceTest(unittest.TestCase):
    def test_each_stands_in_its_file_with_its_arguments(self):
        module = None
        for word in FUNCTIONS.split():
            if word.endswith(":"):
                module = importlib.import_module("norowstray." + word[:-1])
                continue
            name, arguments = word[:-1].split("(")
            called = getattr(module, name)
            self.assertEqual(called.__module__, module.__name__, word)
            self.assertEqual(list(inspect.signature(called).parameters), arguments.split(","), word)

    def test_methods_of_works(self):
        works = importlib.import_module("norowstray.works").Works
        for name, arguments in METHODS.items():
            self.assertIn(name, vars(works))
            self.assertEqual(list(inspect.signature(vars(works)[name]).parameters), arguments)

    def test_examples_of_the_readme(self):
        # The marks of the blocks are no part of what is printed.
        text = (Path(__file__).parent.parent / "README.md").read_text(encoding="utf-8").replace("```", "")
        told = doctest.DocTestRunner().run(doctest.DocTestParser().get_doctest(text, {}, "README.md", None, 0))
        self.assertGreater(told.attempted, 15)
        self.assertEqual(told.failed, 0)
