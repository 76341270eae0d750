import inspect
import unittest

from closereckoned.settings import choices_on, place_of, put_on, setting_at, settings_of
from tests import helper
from tests.helper import Case, all_lots, all_settings

FORMS = ((1,), (4,), (2, 3), (3, 1, 2), (1, 1, 1, 1, 1, 1), (2, 2, 2, 2, 2, 2), (4, 4, 4))


class Settings(Case):

    def test_settings_of(self):
        for form in FORMS:
            self.same(list(settings_of(form)), all_settings(form))
        self.assertEqual(len(list(settings_of(sizes=(2,) * 6))), 64)

    def test_is_a_generator(self):
        self.assertTrue(inspect.isgenerator(settings_of((2, 2))))
        late = settings_of((2, 0))
        self.refused("sizes", next, late)
        one = settings_of((2, 2))
        self.same([next(one), next(one)], [(0, 0), (0, 1)])

    def test_places(self):
        for form in FORMS:
            for place, setting in enumerate(all_settings(form)):
                self.same(place_of(form, setting), place)
                self.same(setting_at(form, place), setting)
            self.refused("place", setting_at, form, len(all_settings(form)))
            self.refused("place", setting_at, form, -1)

    def test_choices(self):
        for form in ((2, 3), (3, 1, 2), (1,), (2, 2, 2, 2)):
            for lot in all_lots(len(form)):
                self.on_lot(form, lot)

    def on_lot(self, form, lot):
        for setting in all_settings(form):
            self.same(choices_on(form, setting, lot), tuple(setting[house] for house in lot))
            for choices in all_settings([form[house] for house in lot]):
                put = dict(zip(lot, choices))
                expected = tuple(put.get(house, setting[house]) for house in range(len(form)))
                self.same(put_on(form, setting, lot, choices), expected)

    def test_parameters(self):
        form, setting = (2, 3, 2), (1, 2, 0)
        first = (("sizes", form, helper.sizes), ("setting", setting, helper.setting(form)))
        lot = ("lot", (0, 2), helper.lot(3))
        self.judged(settings_of, first[0])
        self.judged(place_of, *first)
        self.judged(setting_at, first[0], ("place", 3, helper.below(12)))
        self.judged(choices_on, *first, lot)
        self.judged(put_on, *first, lot, ("choices", (1, 1), helper.setting((2, 2))))

    def test_choices_not_of_the_lot(self):
        for choices in ((), (1,), (1, 1, 0), (2, 0), (1, 3), (True, 0), [1, 0], (1, -1), ((1,), 0), None, 1):
            self.refused("choices", put_on, (2, 3, 2), (1, 2, 0), (0, 1), choices)
        self.refused("choices", put_on, (2, 3, 2), (1, 2, 0), (), (0,))
        self.same(put_on((2, 3, 2), (1, 2, 0), (), ()), (1, 2, 0))


if __name__ == "__main__":
    unittest.main()
