"""Names, arguments and places of what the document lists."""

import ast
import inspect
import unittest
from importlib import import_module

from tests.test_language import FILES, tree_of

FUNCTIONS = {
    "kinds": "is_integer(thing), is_number(thing), is_bit(thing), is_sizes(thing), is_setting(sizes, thing),"
             " is_lot(many, thing), is_fears(many, thing), is_ground(thing)",
    "quotients": "is_quotient(thing), quotient_of(top, bottom), plus(one, other), times(one, other)",
    "settings": "settings_of(sizes), place_of(sizes, setting), setting_at(sizes, place), choices_on(sizes, setting, lot),"
                " put_on(sizes, setting, lot, choices)",
    "lots": "others_of(many, lot), lots_of(many), greatest_of(many, lots)",
    "feardeeds": "is_feared(many, fears, lot), feared_lots(many, fears), blind_lots(many, fears, lot),"
                 " few_fears(many, few)",
    "partings": "is_parting(many, fears, lot), partings_of(many, fears), parting_of(many, fears, one, other),"
                " atoms_of(many, fears), atom_at(many, fears, house)",
    "covers": "fewest_all(many, fears), cover_of(many, fears), atom_paper(many, fears, lot)",
    "atomchecker": "lets_atom(many, fears, lot, thing)",
    "grounds": "beside(one, other), left_out(ground, house), feared_too(ground, lot), calmed(ground, lot)",
    "groundtexts": "ground_line(ground), read_ground(text)",
    "owntables": "is_own(sizes, lot, thing), spread(sizes, lot, own), sum_table(sizes, bit, summands)",
    "tables": "is_table(sizes, thing), answer_at(sizes, table, setting), added(sizes, one, other),"
              " fixed(sizes, table, house, choice)",
    "fours": "is_four(sizes, thing), four_settings(sizes, four), is_odd(sizes, table, four)",
    "knitting": "odd_four(sizes, table, one, other), are_knit(sizes, table, one, other), knit_pairs(sizes, table),"
                " clumps_of(sizes, table), idle_houses(sizes, table)",
    "seams": "is_seam(sizes, table, lot), halves_of(sizes, table, lot), clump_sum(sizes, table)",
    "terms": "is_term(sizes, thing), term_value(sizes, term, setting), terms_of(sizes, table),"
             " table_by_terms(sizes, terms)",
    "fitting": "fits(ground, table), fit_many(ground), all_fit(ground), mended(ground, table), fit_paper(ground, table)",
    "fitchecker": "lets_fit(ground, table, thing)",
    "tabletexts": "table_line(sizes, table), read_table(text)",
    "grids": "is_grid(thing), is_block(grid, thing), all_block(grid), answers_in(grid, block), flipped(grid)",
    "ties": "are_tied(grid, block, hand, one, other), classes_of(grid, block, hand)",
    "cutting": "tree_of(grid), tied_block(grid), cut_paper(grid)",
    "cutchecker": "lets_cut(grid, thing)",
    "depths": "fewest_turns(grid, hand), tree_by_turns(grid, hand)",
    "talks": "is_talk(rows, columns, thing), paths_of(rows, columns, talk),"
             " chance_at(rows, columns, talk, row, column, path), turns_of(rows, columns, talk, hand), talk_by_tree(grid, tree)",
    "talkfaults": "talk_fault(grid, talk)",
    "faultchecker": "lets_fault(grid, talk, thing)",
    "overhearing": "can_be_heard(grid), heard_fault(grid, talk), heard_paper(grid)",
    "heardchecker": "lets_heard(grid, thing)",
    "sidegrids": "grid_of(sizes, answers, lot), barred_parting(ground, answers)",
    "planchecker": "lets_plan(thing)",
    "plandeeds": "die_steps(plan), known_by(plan, lot), letters_of(plan, lot), reach_of(plan, bit)",
    "runs": "run_of(plan, setting, dice), ends_by(plan, setting, dice), view_of(plan, lot, setting, dice)",
    "viewcounts": "view_counts(plan, lot, setting), is_right(plan, table), is_close(plan, table, lot), suits(ground, table, plan)",
    "planfaults": "plan_fault(ground, table, plan)",
    "planfaultchecker": "lets_plan_fault(ground, table, plan, thing)",
    "reckonings": "reckoned_at(plan, lot, step)",
    "closepapers": "entries_at(plan, lot, step), close_paper(plan, lot)",
    "closechecker": "lets_close(plan, lot, thing)",
    "matching": "matched_dice(plan, lot, paper, one, other, dice)",
    "plantexts": "plan_lines(plan), read_plan(lines)",
    "pieces": "pieces_of(bit, throws), bit_of(pieces), gets_of(many, lots, house, pieces)",
    "helping": "helper_of(many, one, other), dealt_pairs(many, lots), product_sums(many, lots, one, other)",
    "benchpieces": "share_on(bench, lots, house, bit), sum_on(bench, lots, holdings), times_on(bench, lots, one, other)",
    "expansions": "expansion_of(plan, bit), expansion_value(plan, expansion, setting, dice), right_always(plan, table)",
    "toldplans": "plan_of(ground, table), plan_counts(plan)",
    "reckonpapers": "reckon_paper(ground, table)",
    "reckonchecker": "lets_reckoned(ground, table, thing)",
    "nets": "is_net(many, thing), mesh_of(many), is_way(many, net, thing), wired_to(many, net, house)",
    "sides": "sides_of(many, net, lot), divides(many, net, lot, one, other), dividing_lots(many, net, fears), is_sturdy(many, net, fears),"
             " needed_wires(many, net, fears)",
    "waysearch": "way_past(many, net, lot, one, other)",
    "secrets": "between_lots(many, fears, one, other), can_send(many, net, fears, one, other), secret_paper(many, net, fears, one, other)",
    "secretchecker": "lets_secret(many, net, fears, one, other, thing)",
    "secretfaults": "secret_fault(fears, plan, one, other)",
    "routes": "is_over(net, plan), routes_of(net, fears, plan), throws_in(routes)",
    "carrying": "carried_pieces(plan, routes, setting, dice, throws), net_view(plan, routes, lot, setting, dice, throws),"
                " matched_throws(fears, plan, routes, lot, one, other, dice, changed, throws)",
    "netfitting": "hears(many, net, lot, other), net_bar(ground, net, table), core_of(ground, net, table), net_word(ground, net, table),"
                  " net_paper(ground, net, table)",
    "netchecker": "lets_net(ground, net, table, thing)",
    "dealings": "is_deal(many, thing), is_dealing(many, thing), deal_view(many, lot, deal), view_shares(many, dealing, lot),"
                " is_close_for(many, dealing, lot), has_grade(many, fears, dealing, grade)",
    "dealfaults": "deal_fault(many, fears, dealing, grade)",
    "dealfaultchecker": "lets_deal_fault(many, fears, dealing, grade, thing)",
    "grades": "grade_of(many, fears), grade_paper(many, fears, grade)",
    "gradechecker": "lets_grade(many, fears, grade, thing)",
    "piecedeals": "piece_deal(many, fears, pieces), pieces_dealing(many, fears), tells(many, fears, lot), bit_told(many, fears, lot, seen),"
                  " added_deals(many, one, other)",
    "reading": "read_said(many, fears, said), read_sure(many, fears, said), liars_in(many, fears, said)",
    "hours": "pieces_at(fears, hours, hour), hours_view(many, fears, hours, lots), matched_hours(many, fears, hours, lots)",
    "liveevents": "is_event(thing), is_log(thing)",
    "replaying": "replayed(log)",
    "eventtexts": "event_line(event), log_lines(log), read_event(text), read_log(lines)",
}

CLASSES = {"groundclasses": ("Ground", "Few"), "tableclasses": ("Table", "Both"), "gridclasses": ("Grid", "Added"),
           "benches": ("Bench",), "planclasses": ("Plan", "Chorus"), "toldclasses": ("Told", "Duo"), "netclasses": ("Net", "Mesh"),
           "dealclasses": ("Dealt", "Renewed"), "live": ("LiveHouses",), "desk": ("Desk",)}
METHODS = {
    "Ground": {
        "__init__": "(self, sizes, fears)", "__call__": "(self, lot)", "__getitem__": None, "__contains__": None,
        "__add__": "(self, other)", "__len__": "(self)", "__iter__": "(self)", "__str__": "(self)",
        "__eq__": "(self, other)", "without": "(self, house)", "more": "(self, lot)", "less": "(self, lot)",
        "form_now": "property", "sizes_now": "property", "fears_now": "property", "fewest_now": "property",
        "read": "(cls, text)", "fearing": "(cls, sizes, *lots)",
    },
    "Few": {"__init__": "(self, sizes, few)", "few_now": "property", "grown": "(self, by=1)"},
    "Table": {
        "__init__": "(self, sizes, answers)", "__call__": "(self, lot)", "__getitem__": None, "__contains__": None,
        "__add__": "(self, other)", "__invert__": "(self)", "__len__": "(self)", "__iter__": "(self)", "__str__": "(self)",
        "__eq__": "(self, other)", "odd": "(self, one, other)", "halves": "(self, lot)", "settled": "(self, house, choice)",
        "fits_with": "(self, fears)", "mended_with": "(self, fears)", "sizes_now": "property", "answers_now": "property",
        "clumps_now": "property", "terms_now": "property", "read": "(cls, text)",
    },
    "Both": {"__init__": "(self, sizes, *houses)", "houses_now": "property"},
    "Grid": {
        "__init__": "(self, *rows)", "__getitem__": None, "__contains__": None, "__add__": "(self, other)", "__invert__": "(self)",
        "__len__": "(self)", "__iter__": "(self)", "__eq__": "(self, other)", "turns": "(self, hand)", "grid_now": "property",
        "tree_now": "property", "tied_now": "property", "heard_now": "property",
    },
    "Added": {"__init__": "(self, one, other)", "summands_now": "property"},
    "Bench": {
        "__init__": "(self, sizes)", "own": "(self, house, choices)", "die": "(self, house)", "sum_of": "(self, house, bits)",
        "times_of": "(self, house, one, other)", "send": "(self, house, bit, other)", "knows": "(self, house, bit)",
        "finished": "(self, ends)", "sizes_now": "property",
    },
    "Plan": {
        "__init__": "(self, form)", "__call__": "(self, setting, dice)", "__getitem__": None, "__len__": "(self)", "__iter__": "(self)",
        "__eq__": "(self, other)", "seen": "(self, lot, setting, dice)", "right": "(self, table)", "close": "(self, table, lot)",
        "lines": "(self)", "form_now": "property", "sizes_now": "property", "dice_now": "property", "read": "(cls, lines)",
    },
    "Chorus": {"__init__": "(self, sizes, *sets)", "answers_now": "property"},
    "Told": {
        "__init__": "(self, ground, table)", "__getitem__": None, "__contains__": None, "__len__": "(self)", "__iter__": "(self)",
        "__eq__": "(self, other)", "ends_at": "(self, setting, dice)", "paper_for": "(self, lot)", "with_table": "(self, table)",
        "ground_now": "property", "table_now": "property", "plan_now": "property", "counts_now": "property",
    },
    "Duo": {"__init__": "(self, one, other)", "halves_now": "property", "heard_by": "(self, house, setting)"},
    "Net": {
        "__init__": "(self, many, *wires)", "__call__": "(self, lot)", "__getitem__": None, "__contains__": None,
        "__add__": "(self, other)",
        "__invert__": "(self)", "__len__": "(self)", "__iter__": "(self)", "__str__": "(self)", "__eq__": "(self, other)",
        "past": "(self, lot, one, other)", "net_now": "property",
    },
    "Mesh": {"__init__": "(self, many)", "without": "(self, *wires)"},
    "Dealt": {
        "__init__": "(self, many, fears, pieces)", "__call__": "(self, lot)", "__getitem__": None, "__contains__": None,
        "__add__": "(self, other)",
        "__len__": "(self)", "__iter__": "(self)", "__eq__": "(self, other)", "told_by": "(self, lot)", "said_with": "(self, lot, said)",
        "read_with": "(self, lot, said)", "sure_with": "(self, lot, said)", "many_now": "property", "fears_now": "property",
        "pieces_now": "property", "bit_now": "property", "deal_now": "property",
    },
    "Renewed": {
        "__init__": "(self, many, fears, hours)", "hours_now": "property", "at_hour": "(self, hour)", "seen_by": "(self, *lots)",
        "matched": "(self, *lots)", "renewed": "(self, noughts)",
    },
    "LiveHouses": {
        "__init__": "(self, ground, net, table)", "ground_now": "property", "net_now": "property", "table_now": "property",
        "fits_now": "property",
        "word_now": "property", "atoms_now": "property", "clumps_now": "property", "grade_now": "property", "fear": "(self, lot)",
        "calm": "(self, lot)",
        "answer": "(self, setting, bit)", "wire": "(self, one, other)", "unwire": "(self, one, other)", "leave": "(self, house, choice)",
        "enter": "(self)",
        "go": "(self, event)", "barred": "(self, event)", "tried": "(self, *events)", "undo": "(self)",
        "do_all": "(self, *events, keep=False)",
        "tally": "(self)", "log": "(self)", "__getitem__": None, "__contains__": None, "__len__": "(self)", "__iter__": "(self)",
        "__eq__": "(self, other)",
    },
    "Desk": {"__init__": "(self)", "say": "(self, row)", "counts": "(self)"},
}


class Interface(unittest.TestCase):

    def test_functions(self):
        for name, listed in FUNCTIONS.items():
            module = import_module(f"closereckoned.{name}")
            defined = [node.name for node in tree_of(f"{name}.py").body if isinstance(node, ast.FunctionDef)]
            for told in listed.replace("), ", ")\n").split("\n"):
                word = told[:told.index("(")]
                self.assertIn(word, defined)
                self.assertEqual(word + str(inspect.signature(getattr(module, word))), told)

    def test_classes(self):
        self.assertEqual(sorted(name for names in CLASSES.values() for name in names), sorted(METHODS))
        for stem, names in CLASSES.items():
            module = import_module(f"closereckoned.{stem}")
            defined = [node.name for node in tree_of(f"{stem}.py").body if isinstance(node, ast.ClassDef)]
            self.assertEqual(defined, list(names))
            # The first one has no base, the second one is derived from it.
            self.assertEqual([getattr(module, name).__bases__[0].__name__ for name in names], ["object", *names[:-1]])
            for name in defined:
                self.methods(vars(getattr(module, name)), METHODS[name])

    def methods(self, found, listed):
        for name, told in listed.items():
            if told == "property":
                self.assertIsInstance(found[name], property)
            elif told is not None:
                inner = found[name].__func__ if isinstance(found[name], classmethod) else found[name]
                self.assertEqual(str(inspect.signature(inner)), told)

    def test_files(self):
        self.assertLessEqual({f"{name}.py" for name in (*FUNCTIONS, *CLASSES, "errors", "__init__")}, set(FILES))


if __name__ == "__main__":
    unittest.main()
