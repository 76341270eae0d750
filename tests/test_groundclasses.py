import unittest
from itertools import product

from closereckoned.groundclasses import Few, Ground
from tests import helper
from tests.helper import Case, EACH, ODD_VALUES, PAIR, SIDES, all_fears, all_lots, feared

FORM = (2, 3, 1)


class Grounds(Case):

    def is_of(self, kind, one, ground):
        self.assertIs(type(one), kind)
        self.same(one.form_now, ground)

    def test_properties(self):
        one = Ground(*SIDES)
        self.same(one.form_now, SIDES)
        self.same(one.sizes_now, SIDES[0])
        self.same(one.fears_now, SIDES[1])
        self.same(one.fewest_now, 2)
        self.same(Ground(fears=((),), sizes=(1,)).fewest_now, None)
        self.same(Few((2,) * 6, 2).fewest_now, 3)

    def test_atoms_and_fears(self):
        for many in (1, 2, 3):
            for fears in all_fears(many):
                one = Ground(FORM[:many], fears)
                partings = helper.partings(many, fears)
                for house in range(many):
                    self.same(one[house], tuple(other for other in range(many) if not any(
                        (house in lot) != (other in lot) for lot in partings)))
                for lot in all_lots(many):
                    self.assertIs(one(lot), feared(fears, lot))
                    self.assertIs(one(lot=lot), feared(fears, lot))

    def test_contains(self):
        for form in (SIDES, PAIR, ((1,), ((),)), ((2,) * 6, ((0, 1, 2, 3, 4, 5),))):
            for one in (Ground(*form), Few(form[0], 1)):
                for thing in (*ODD_VALUES, *all_lots(3), one):
                    expected = helper.lot(len(form[0]))(thing) and feared(one.fears_now, thing)
                    self.assertIs(thing in one, expected, repr(thing))

    def test_len_and_iteration(self):
        for one in (Ground(*SIDES), Few((2, 2, 2), 2), Ground((2,), ((),))):
            self.same(len(one), len(one.sizes_now))
            self.same(list(one), list(one.fears_now))
            self.same(list(one), list(one.fears_now))
        self.same(str(Ground(*SIDES)), "ground 2 2 2 / 0 1 / 2")
        self.same(str(Few((2, 4), 0)), "ground 2 4 /")

    def test_equality(self):
        one = Ground(*EACH)
        self.assertTrue(one == Ground(*EACH) and one == Few((2, 2, 2), 1) and Few((2, 2, 2), 1) == one)
        self.assertFalse(one != Few((2, 2, 2), 1))
        for other in (*ODD_VALUES, EACH, str(one), Ground(*SIDES), Few((2, 2, 2), 2), Ground((2, 2, 3), EACH[1])):
            self.assertIs(one == other, False)
            self.assertIs(one != other, True)

    def test_new_ones(self):
        for one in (Ground(*EACH), Few((2, 2, 2), 1)):
            self.is_of(Ground, one.without(1), ((2, 2), ((0,), (1,))))
            self.is_of(Ground, one.without(house=1), ((2, 2), ((0,), (1,))))
            self.is_of(Ground, one.more((0, 1)), SIDES)
            self.is_of(Ground, one.more(lot=(0, 1)), SIDES)
            self.is_of(Ground, one.less((2,)), ((2, 2, 2), ((0,), (1,))))
            self.is_of(Ground, one.less(lot=(2,)), ((2, 2, 2), ((0,), (1,))))
            self.is_of(Ground, one + Few((4,), 0), ((2, 2, 2, 4), EACH[1]))
            self.is_of(Ground, Few((4,), 1) + one, ((4, 2, 2, 2), ((0, 1), (0, 2), (0, 3))))
            self.same(one.form_now, EACH)

    def test_plus_refuses(self):
        for one in (Ground(*PAIR), Few((2, 2), 1)):
            for other in (*ODD_VALUES, PAIR, "ground 2 /"):
                self.refused("other", lambda: one + other)

    def test_read(self):
        self.is_of(Ground, Ground.read("ground 2 2 2 / 0 1 / 2"), SIDES)
        self.is_of(Ground, Ground.read(text="ground 2 /"), ((2,), ((),)))
        self.untext(5, Ground.read, "ground 2 2 / 0 / 0 1")
        self.untext(0, Ground.read, text="")
        for value in ODD_VALUES:
            if type(value) is not str:
                self.refused("text", Ground.read, value)
                self.refused("text", Ground.read, text=value)

    def test_fearing(self):
        for many in (1, 2, 3):
            for some in product(all_lots(many), repeat=2):
                tops = {lot for lot in some if not any(set(lot) < set(other) for other in some)}
                self.is_of(Ground, Ground.fearing(FORM[:many], *some), (FORM[:many], tuple(sorted(tops))))
        self.is_of(Ground, Ground.fearing((2, 2)), ((2, 2), ((),)))
        self.is_of(Ground, Ground.fearing(sizes=(2, 2)), ((2, 2), ((),)))
        for sizes in ODD_VALUES:
            if not helper.sizes(sizes):
                self.refused("sizes", Ground.fearing, sizes)
                self.refused("sizes", Ground.fearing, sizes=sizes)
                self.refused("sizes", Ground.fearing, sizes, None)
        for lot in ODD_VALUES:
            if not helper.lot(2)(lot):
                self.refused("lots", Ground.fearing, (2, 2), lot)
                self.refused("lots", Ground.fearing, (2, 2), (0,), lot)

    def test_parameters(self):
        one = Ground(*SIDES)
        judged_sizes = ("sizes", SIDES[0], helper.sizes)
        self.judged(lambda sizes, fears: str(Ground(sizes, fears)), judged_sizes, ("fears", SIDES[1], helper.fears(3)))
        self.judged(one, ("lot", (0, 2), helper.lot(3)))
        self.judged(lambda house: one[house], ("house", 2, helper.below(3)))
        self.judged(lambda house: str(one.without(house)), ("house", 2, helper.below(3)))
        self.judged(lambda lot: str(one.more(lot)), ("lot", (0, 2), helper.lot(3)))
        self.judged(lambda lot: str(one.less(lot)), ("lot", (0, 2), helper.some_lot(3)))
        for call, name, wrong in ((one.without, "house", 3), (one.more, "lot", (3,)), (one.less, "lot", ()),
                                  (one, "lot", [0]), (Ground, "sizes", ())):
            self.refused(name, call, **{name: wrong, **({"fears": 0} if call is Ground else {})})
        self.refused("house", lambda: one[0:1])
        self.refused("ground", Ground((2,), ((),)).without, 0)
        self.refused("ground", Ground((2,), ((),)).without, None)

    def test_never_changes(self):
        one = Ground(*SIDES)
        for name in ("form_now", "sizes_now", "fears_now", "fewest_now"):
            with self.assertRaises(AttributeError):
                setattr(one, name, ())
        with self.assertRaises(TypeError):
            one[0] = (0,)


class Fews(Case):

    def test_fears(self):
        for many in range(1, 7):
            for few in range(many + 1):
                one = Few((2,) * many, few)
                self.assertIsInstance(one, Ground)
                self.same(one.fears_now, tuple(lot for lot in all_lots(many) if len(lot) == few))
                self.same(one.few_now, few)
                self.grown(one, many, few)
            self.refused("few", Few, (2,) * many, many + 1)
            self.refused("few", Few, sizes=(2,) * many, few=-1)

    def grown(self, one, many, few):
        for by in range(-many - 1, many + 2):
            if 0 <= few + by <= many:
                for other in (one.grown(by), one.grown(by=by)):
                    self.assertIs(type(other), Few)
                    self.same((other.few_now, other.form_now), (few + by, Few((2,) * many, few + by).form_now))
            else:
                self.refused("by", one.grown, by)
                self.refused("by", one.grown, by=by)

    def test_grown_by_one(self):
        self.same(Few((2, 2), 0).grown().few_now, 1)
        self.refused("by", Few((2, 2), 2).grown)
        self.same(Few((2, 2), 2).grown(-2).fears_now, ((),))

    def test_parameters(self):
        self.judged(lambda sizes, few: str(Few(sizes, few)), ("sizes", (2, 2, 1), helper.sizes),
                    ("few", 2, helper.below(4)))
        one = Few((2, 2, 1), 1)
        self.judged(lambda by: str(one.grown(by)), ("by", 2, lambda by: helper.whole(by) and by in (-1, 0, 1, 2)))
        for few in ODD_VALUES:
            if not helper.below(3)(few):
                self.refused("few", Few, (2, 2), few)
                self.refused("few", Few, sizes=(2, 2), few=few)


if __name__ == "__main__":
    unittest.main()
