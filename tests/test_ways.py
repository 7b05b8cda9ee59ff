"""Points [2], [3], [15] and [16]: ways of almost answers, and answers of level tables."""

import copy
import random
import unittest
from fractions import Fraction

from eitherslack.errors import Dipped, NoCover, NoRow
from eitherslack.finder import settled
from eitherslack.tables import Table
from eitherslack.ways import Way, level_answer, way
from papers import GREATEST, bars_presses, dip_of, each_kind, of_squares, rows_of_parts, some_start, square_parts
from reckoning import (
    PLACES, SlackCase, answers_start, gaps_of, random_row, read, read_row, sample_rows, times_of, told_row, told_rows,
)


def some_cover(source, many):
    return [Fraction(source.randint(1, 5), source.randint(1, 4)) for place in range(many)]


def lifted(start, cover, lift):
    return [number + lift * weight for number, weight in zip(start, cover)]


def read_step(step):
    return read(step[0]), read_row(step[1])


class WayCase(SlackCase):
    def walked(self, rows, start, cover=None):
        """The way that is told, right by the tests' own reckoning."""
        table, told_start = Table(told_rows(rows)), told_row(start)
        if cover is None:
            answer = way(table, told_start)
            cover = [Fraction(1)] * len(rows)
        else:
            answer = way(table, told_start, told_row(cover))
        self.assertIs(type(answer), Way)
        steps = answer.steps()
        self.check_forms(answer, steps)
        steps = [read_step(step) for step in steps]
        self.check_steps(rows, start, cover, steps)
        self.check_end(rows, start, cover, steps, answer)
        return answer

    def check_forms(self, answer, steps):
        self.assertIs(type(steps), list)
        for step in steps + ([] if answer.ray() is None else [answer.ray()]):
            self.assertIs(type(step), tuple)
            self.check_plain(step[0])
            self.assertIs(type(step[1]), list)
            self.assertEqual(len(step), 2)

    def check_steps(self, rows, start, cover, steps):
        places = range(len(rows))
        self.assertEqual(steps[0], (max([Fraction(0)] + [-number / weight for number, weight in zip(start, cover)]),
                                    [Fraction(0)] * len(rows)))
        for lift, presses in steps:
            self.assertGreaterEqual(lift, 0)
            self.assertTrue(answers_start(rows, lifted(start, cover, lift), presses))
        for one, other in zip(steps, steps[1:]):
            self.assertGreater(one[0], 0)
            self.assertNotEqual(one, other)
            one_gaps = gaps_of(rows, lifted(start, cover, one[0]), one[1])
            other_gaps = gaps_of(rows, lifted(start, cover, other[0]), other[1])
            self.assertTrue(all(one[1][at] == other[1][at] == 0 or one_gaps[at] == other_gaps[at] == 0
                                for at in places))

    def check_end(self, rows, start, cover, steps, answer):
        self.assertEqual(len(answer), len(steps))
        lift, presses = steps[-1]
        if lift == 0:
            self.assertIsNone(answer.ray())
            self.check_row(answer.answer(), presses)
            self.assertTrue(answers_start(rows, start, presses))
            self.assertEqual(str(answer), f"answer {len(steps)}")
            return
        self.assertIsNone(answer.answer())
        self.assertEqual(str(answer), f"ray {len(steps)}")
        ray_lift, ray = read_step(answer.ray())
        self.assertTrue(ray_lift >= 0 and min(ray) >= 0 and max(ray) > 0)
        for number in (Fraction(1, 1000), Fraction(1), Fraction(7, 3), Fraction(10 ** 9)):
            far = [press + number * growth for press, growth in zip(presses, ray)]
            self.assertTrue(answers_start(rows, lifted(start, cover, lift + number * ray_lift), far))


class WaysTest(WayCase):
    def test_tables_of_many_kinds(self):
        source = random.Random(1)
        seen = {}
        for many in PLACES:
            for rows in each_kind(many, 12):
                for turn in range(3):
                    answer = self.walked(rows, some_start(source, many), some_cover(source, many) if turn else None)
                    key = (many, answer.ray() is None)
                    seen[key] = seen.get(key, 0) + 1
        self.assertEqual(len(seen), 2 * len(PLACES), seen)

    def test_ties(self):
        """Starts and tables of small numbers, of which many almost answers have a press and a gap of 0."""
        source = random.Random(2)
        for many in PLACES:
            for turn in range(150):
                rows = [[Fraction(source.randint(-1, 2)) for column in range(many)] for row in range(many)]
                start = [Fraction(source.choice([-1, -1, 0, 1])) for place in range(many)]
                self.walked(rows, start)
                self.walked(rows, start, [Fraction(source.randint(1, 2)) for place in range(many)])

    def test_starts_without_a_number_below(self):
        source = random.Random(3)
        for many in PLACES:
            for rows in each_kind(many, 2, seed=3):
                for start in ([Fraction(0)] * many, [abs(number) for number in random_row(source, many)]):
                    answer = self.walked(rows, start)
                    self.assertEqual(answer.steps(), [((0, 1), told_row([0] * many))])
                    self.assertEqual((len(answer), str(answer), answer.ray()), (1, "answer 1", None))
                    self.assertEqual(answer.answer(), told_row([0] * many))

    def test_none_for_a_cover(self):
        source = random.Random(4)
        for many in PLACES:
            for rows in each_kind(many, 2, seed=4):
                table, start = Table(told_rows(rows)), told_row(some_start(source, many))
                left_out = way(table, start)
                for other in (way(table, start, None), way(table, start, [(1, 1)] * many),
                              way(table=table, start=start, cover=None), way(cover=None, start=start, table=table)):
                    self.assertEqual(left_out, other)
                    self.assertEqual((left_out.steps(), left_out.ray()), (other.steps(), other.ray()))

    def test_by_hand(self):
        answer = self.walked([[Fraction(2), Fraction(1)], [Fraction(1), Fraction(2)]], [Fraction(-3), Fraction(1)])
        self.assertEqual(answer.steps(), [((3, 1), [(0, 1), (0, 1)]), ((0, 1), [(3, 2), (0, 1)])])
        answer = self.walked([[Fraction(-1)]], [Fraction(-2)])
        self.assertEqual(answer.steps(), [((2, 1), [(0, 1)])])
        self.assertEqual(read(answer.ray()[0]), read(answer.ray()[1][0]))
        answer = self.walked([[Fraction(0)]], [Fraction(-2)], [Fraction(4)])
        self.assertEqual(answer.steps(), [((1, 2), [(0, 1)])])
        self.assertEqual(answer.ray()[0], (0, 1))

    def test_great_numbers(self):
        source = random.Random(5)
        for many in (1, 2, 3):
            rows = [[Fraction(source.randint(-GREATEST, GREATEST), source.randint(1, GREATEST)) for column in range(many)]
                    for row in range(many)]
            start = [Fraction(-source.randint(1, GREATEST), source.randint(1, GREATEST)) for place in range(many)]
            self.walked(rows, start)
            self.walked(rows, start, [Fraction(1, GREATEST)] * many)

    def test_where_alone_is_so_each_way_has_an_answer(self):
        source = random.Random(6)
        found = 0
        for many in PLACES:
            for rows in each_kind(many, 10, seed=6):
                if settled(Table(told_rows(rows)), ("alone",))[0]:
                    found += 1
                    for turn in range(3):
                        answer = self.walked(rows, some_start(source, many), some_cover(source, many))
                        self.assertIsNotNone(answer.answer())
        self.assertGreater(found, 50)

    def test_rays_of_level_tables(self):
        source = random.Random(7)
        found = 0
        for many in PLACES:
            for turn in range(40):
                rows, start = of_squares(source, many), some_start(source, many)
                answer = self.walked(rows, start, some_cover(source, many))
                if answer.ray() is not None:
                    found += 1
                    self.assertEqual(answer.ray()[0], (0, 1))
                    self.assertTrue(bars_presses(rows, start, read_row(answer.ray()[1])))
        self.assertGreater(found, 20)


class LikeTest(WayCase):
    def ways(self):
        source = random.Random(8)
        found = []
        for many in PLACES:
            for rows in each_kind(many, 1, seed=8):
                found.append(self.walked(rows, some_start(source, many)))
        return found

    def test_like_and_unlike(self):
        for one in self.ways():
            for other in self.ways():
                alike = one.steps() == other.steps() and one.ray() == other.ray()
                self.assertIs(one == other, alike)
                self.assertIs(one != other, not alike)

    def test_two_ways_with_like_steps_and_unlike_rays(self):
        table, other = Table([[(-1, 1)]]), Table([[(-2, 1)]])
        one, two = way(table, [(-1, 1)]), way(other, [(-1, 1)])
        self.assertEqual(one.steps(), two.steps())
        self.assertNotEqual(one.ray(), two.ray())
        self.assertIs(one == two, False)
        self.assertIs(one != two, True)
        self.assertIs(way(table, [(-1, 1)], [(2, 1)]) == one, False)

    def test_other_things(self):
        for one in self.ways()[:12]:
            for other in (None, 0, True, "answer 1", str(one), one.steps(), tuple(one.steps()), (one.steps(), one.ray()),
                          [], {}, Table([[(1, 1)]])):
                self.assertIs(one == other, False)
                self.assertIs(other == one, False)
                self.assertIs(one != other, True)

    def test_in_a_list_of_ways(self):
        found, again = self.ways(), self.ways()
        for one in again:
            self.assertIn(one, found)
            self.assertEqual(found.count(one), again.count(one))
        self.assertNotIn(way(Table([[(3, 1)]]), [(-17, 5)]), found)


class OwnTest(WayCase):
    def test_by_names_and_places(self):
        source = random.Random(9)
        for many in PLACES:
            for rows in each_kind(many, 1, seed=9):
                table, start = Table(told_rows(rows)), told_row(some_start(source, many))
                self.asked_each_way(way, table=table, start=start)
                self.asked_each_way(way, table=table, start=start, cover=told_row(some_cover(source, many)))

    def test_told_lists_changed(self):
        source = random.Random(10)
        for many in PLACES:
            for rows in each_kind(many, 2, seed=10):
                table, start, cover = Table(told_rows(rows)), told_row(some_start(source, many)), [(2, 1)] * many
                answer = way(table, start, cover)
                kept = copy.deepcopy(answer)
                for ask in (answer.steps, answer.answer, answer.ray):
                    self.check_own(ask, start, cover)
                    self.assertEqual(answer, kept)
                self.assertEqual((answer.steps(), answer.ray()), (kept.steps(), kept.ray()))
                self.assertEqual((len(answer), str(answer)), (len(kept), str(kept)))

    def test_handed_lists_changed_behind(self):
        table, start, cover = Table([[(2, 1)]]), [(-3, 1)], [(1, 2)]
        answer = way(table, start, cover)
        start[0], cover[0] = (9, 1), (9, 1)
        self.assertEqual(answer.steps(), [((6, 1), [(0, 1)]), ((0, 1), [(3, 2)])])


class RefusedTest(WayCase):
    def test_no_row_of_start_or_cover(self):
        for many in PLACES:
            table, right = Table(told_rows(sample_rows(many, 4)[0])), [(-1, 1)] * many
            for wrong in self.wrong_lengths([(1, 1)] * many):
                self.refused(NoRow, way, table, wrong)
                self.refused(NoRow, way, table, wrong, None)
                self.refused(NoRow, way, table, wrong, [(1, 1)] * many)
                self.refused(NoRow, way, table, right, wrong)
                self.refused(NoRow, way, cover=wrong, start=wrong, table=table)
                # Ahead of a cover with numbers not above 0, and of such a list of another length.
                self.refused(NoRow, way, table, wrong, [(0, 1)] * many)
                self.refused(NoRow, way, table, right, [(-1, 1)] * (many + 1))

    def test_no_cover(self):
        for many in PLACES:
            table = Table(told_rows(sample_rows(many, 4)[0]))
            for start in (told_row([-1] * many), told_row([1] * many)):
                for place in range(many):
                    for number in ((0, 1), (-1, 1), (-1, GREATEST)):
                        cover = [(1, 1)] * many
                        cover[place] = number
                        self.refused(NoCover, way, table, start, cover)
                        self.refused(NoCover, way, cover=cover, table=table, start=start)
                self.refused(NoCover, way, table, start, [(0, 1)] * many)


class LevelAnswerTest(WayCase):
    def level(self, rows, start):
        table = Table(told_rows(rows))
        answer = level_answer(table, told_row(start))
        self.assertIs(type(answer), tuple)
        self.assertEqual(len(answer), 2)
        self.assertIs(type(answer[1]), list)
        if answer[0] == "answer":
            self.assertTrue(answers_start(rows, start, read_row(answer[1])))
        else:
            self.assertEqual(answer[0], "none")
            self.assertTrue(bars_presses(rows, start, read_row(answer[1])))
        return answer[0]

    def test_level_tables(self):
        source = random.Random(11)
        seen = {}
        for many in PLACES:
            for turn in range(60):
                key = (many, self.level(of_squares(source, many), some_start(source, many)))
                seen[key] = seen.get(key, 0) + 1
        self.assertEqual(len(seen), 2 * len(PLACES), seen)

    def test_starts_that_drawn_presses_fit(self):
        source = random.Random(12)
        for many in PLACES:
            for turn in range(20):
                rows = of_squares(source, many)
                presses = [abs(number) for number in random_row(source, many)]
                gaps = [abs(number) * source.randint(0, 1) for number in random_row(source, many)]
                start = [gap - lift for gap, lift in zip(gaps, times_of(rows, presses))]
                self.assertEqual(self.level(rows, start), "answer")

    def test_by_hand(self):
        noughts = [[Fraction(0), Fraction(0)], [Fraction(0), Fraction(0)]]
        self.assertEqual(self.level(noughts, [Fraction(0), Fraction(1)]), "answer")
        self.assertEqual(self.level(noughts, [Fraction(0), Fraction(-1)]), "none")
        turning = [[Fraction(0), Fraction(1)], [Fraction(-1), Fraction(0)]]
        self.assertEqual(self.level(turning, [Fraction(-1), Fraction(1)]), "answer")
        self.assertEqual(self.level(turning, [Fraction(1), Fraction(-1)]), "none")
        self.assertEqual(level_answer(Table([[(3, 1)]]), [(-1, 1)]), ("answer", [(1, 3)]))

    def test_dipped(self):
        source = random.Random(13)
        found = 0
        for many in PLACES:
            for rows in each_kind(many, 5, seed=13):
                table, start = Table(told_rows(rows)), told_row(some_start(source, many))
                if settled(table, ("level",))[0]:
                    self.level(rows, read_row(start))
                    continue
                found += 1
                refusal = self.refused(Dipped, level_answer, table, start)
                self.assertIs(type(refusal.row), list)
                self.assertEqual(len(refusal.row), many)
                self.assertLess(dip_of(rows, read_row(refusal.row)), 0)
                before = list(refusal.row)
                refusal.row.clear()
                again = self.refused(Dipped, level_answer, start=start, table=table)
                self.assertEqual(again.row, before)
        self.assertGreater(found, 50)

    def test_almost_level(self):
        source = random.Random(14)
        for many in PLACES:
            parts = square_parts(source, many)[:many - 1]
            rows = rows_of_parts(source, parts, many)
            self.level(rows, some_start(source, many))
            for place in range(many):
                other = [list(row) for row in rows]
                other[place][place] = Fraction(-1, GREATEST)
                self.refused(Dipped, level_answer, Table(told_rows(other)), told_row([1] * many))

    def test_no_row_goes_ahead(self):
        for many in PLACES:
            for number in ((1, 1), (-1, 1), (0, 1)):
                table = Table([[number] * many for place in range(many)])
                for wrong in self.wrong_lengths([(1, 1)] * many):
                    self.refused(NoRow, level_answer, table, wrong)
                    self.refused(NoRow, level_answer, start=wrong, table=table)

    def test_by_names_and_told_lists_changed(self):
        source = random.Random(15)
        for many in PLACES:
            for turn in range(4):
                rows, start = of_squares(source, many), told_row(some_start(source, many))
                table = Table(told_rows(rows))
                self.asked_each_way(level_answer, table=table, start=start)
                self.check_own(lambda: level_answer(table, start), start)


if __name__ == "__main__":
    unittest.main()
