import unittest
from itertools import permutations

from closereckoned.feardeeds import few_fears
from closereckoned.partings import atom_at, atoms_of, is_parting, parting_of, partings_of
from tests import helper
from tests.helper import Case, all_fears, all_lots, partings


class Partings(Case):

    def test_partings(self):
        for many in (1, 2, 3, 4):
            for fears in all_fears(many):
                expected = partings(many, fears)
                self.same(partings_of(many, fears), tuple(expected))
                for lot in all_lots(many):
                    self.assertIs(is_parting(many, fears, lot), lot in expected)

    def test_parting_of(self):
        for many in (2, 3, 4):
            for fears in all_fears(many):
                for one, other in permutations(range(many), 2):
                    right = [lot for lot in partings(many, fears) if one in lot and other not in lot]
                    found = parting_of(many, fears, one, other)
                    self.assertTrue(found in right if right else found is None)

    def test_atoms(self):
        for many in (1, 2, 3, 4):
            for fears in all_fears(many):
                self.atoms(many, fears)

    def atoms(self, many, fears):
        parted = partings(many, fears)
        expected = [tuple(other for other in range(many)
                          if not any((house in lot) != (other in lot) for lot in parted)) for house in range(many)]
        self.same(atoms_of(many, fears), tuple(sorted(set(expected))))
        self.same([atom_at(many, fears, house) for house in range(many)], expected)

    def test_few(self):
        for many in range(1, 7):
            for few in range(many + 1):
                each = tuple((house,) for house in range(many))
                expected = (tuple(range(many)),) if 2 * few < many else each
                self.same(atoms_of(many, few_fears(many, few)), expected)

    def test_edges(self):
        self.same(partings_of(1, ((),)), ())
        self.same(partings_of(1, ((0,),)), ((), (0,)))
        self.same(atoms_of(1, ((),)), ((0,),))
        self.same(atoms_of(2, ((0, 1),)), ((0,), (1,)))
        self.same(atoms_of(6, ((0, 1, 2), (3, 4, 5))), ((0, 1, 2), (3, 4, 5)))
        self.assertIs(is_parting(2, ((0, 1),), ()), True)
        self.assertIs(is_parting(2, ((0, 1),), (0, 1)), True)

    def test_parameters(self):
        first = (("many", 3, helper.positive), ("fears", ((0, 1), (2,)), helper.fears(3)))
        self.judged(is_parting, *first, ("lot", (0, 1), helper.lot(3)))
        self.judged(partings_of, *first)
        self.judged(parting_of, *first, ("one", 2, helper.below(3)),
                    ("other", 0, lambda value: helper.whole(value) and value in (0, 1)))
        self.judged(atoms_of, *first)
        self.judged(atom_at, *first, ("house", 2, helper.below(3)))
        self.refused("other", parting_of, 3, ((0,),), 1, 1)


if __name__ == "__main__":
    unittest.main()
