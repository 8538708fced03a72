"""Promise 28: the handouts."""

import unittest

from mastershow.errors import NoRoom
from mastershow.handouts import handouts
from tests.things import DECK, MASTERS, STRANGE, bare

NO_NUMBERS = tuple(thing for thing in STRANGE if thing is True or not isinstance(thing, int)) + (
    None,
    False,
    -1,
    -(10**5000),
    "",
    "1",
    "one",
    (),
    (1,),
    [1],
)
# The least length of a page that gives a box room.
WIDE, HIGH = 4, 3


def deck_of(*hidden):
    """A deck of slides s0, s1 and so on, hidden or not."""
    return (MASTERS, tuple(bare(f"s{k}", hidden=one) for k, one in enumerate(hidden)))


def shown(many):
    return deck_of(*[0] * many)


class CellsTest(unittest.TestCase):
    def told(self, many, across, down, page, *expected):
        """What is told of so many slides, their names left out."""
        told = handouts(shown(many), across, down, page)
        self.assertEqual([row[0] for row in told], [f"s{k}" for k in range(many)])
        self.assertEqual([row[1:] for row in told], list(expected))

    def test_one_cell(self):
        self.told(2, 1, 1, (40, 30, 0), (0, 0, 0, 40, 30), (1, 0, 0, 40, 30))
        self.told(2, 1, 1, (46, 36, 3), (0, 3, 3, 40, 30), (1, 3, 3, 40, 30))

    def test_a_row_of_cells(self):
        places = [(0, left, 1, 8, 6) for left in (1, 10, 19)]
        self.told(3, 3, 1, (28, 8, 1), *places)
        self.told(4, 3, 1, (28, 8, 1), *places, (1, 1, 1, 8, 6))

    def test_a_column_of_cells(self):
        places = [(0, 1, top, 8, 6) for top in (1, 8, 15)]
        self.told(3, 1, 3, (10, 22, 1), *places)
        self.told(4, 1, 3, (10, 22, 1), *places, (1, 1, 1, 8, 6))

    def test_row_by_row(self):
        places = [(left, top, 4, 3) for top in (2, 7) for left in (2, 8, 14)]
        self.told(6, 3, 2, (20, 12, 2), *[(0, *place) for place in places])

    def test_a_last_page_just_full_and_one_slide_more(self):
        places = [(left, top, 4, 3) for top in (0, 3) for left in (0, 4)]
        for many in (3, 4, 5, 7, 8, 9):
            expected = [(k // 4, *places[k % 4]) for k in range(many)]
            self.told(many, 2, 2, (8, 6, 0), *expected)

    def test_what_is_left_over_of_a_page_is_not_parted(self):
        self.told(4, 2, 2, (21, 16, 3), *[(0, left, top, 4, 3) for top in (3, 9) for left in (3, 12)])
        self.told(4, 2, 2, (22, 15, 3), *[(0, left, top, 4, 3) for top in (3, 9) for left in (3, 12)])
        self.told(2, 2, 1, (9, 3, 0), (0, 0, 0, 4, 3), (0, 4, 0, 4, 3))
        self.told(2, 1, 2, (4, 7, 0), (0, 0, 0, 4, 3), (0, 0, 3, 4, 3))

    def test_a_box_that_fits_just_by_its_wide(self):
        self.told(1, 1, 1, (8, 99, 0), (0, 0, 0, 8, 6))
        self.told(1, 1, 1, (11, 99, 0), (0, 0, 0, 8, 6))
        self.told(1, 1, 1, (12, 99, 0), (0, 0, 0, 12, 9))

    def test_a_box_that_fits_just_by_its_high(self):
        self.told(1, 1, 1, (99, 6, 0), (0, 0, 0, 8, 6))
        self.told(1, 1, 1, (99, 8, 0), (0, 0, 0, 8, 6))
        self.told(1, 1, 1, (99, 9, 0), (0, 0, 0, 12, 9))

    def test_cells_wider_or_higher_than_their_boxes(self):
        self.told(4, 2, 2, (41, 11, 1), *[(0, left, top, 4, 3) for top in (1, 6) for left in (1, 21)])
        self.told(4, 2, 2, (11, 41, 1), *[(0, left, top, 4, 3) for top in (1, 21) for left in (1, 6)])

    def test_hidden_slides(self):
        told = handouts(deck_of(1, 0, 1, 0, 0, 1), 1, 2, (4, 6, 0))
        self.assertEqual(
            told, [("s1", 0, 0, 0, 4, 3), ("s3", 0, 0, 3, 4, 3), ("s4", 1, 0, 0, 4, 3)]
        )
        self.assertEqual(handouts(deck_of(1, 1), 1, 1, (4, 3, 0)), [])
        self.assertEqual([row[0] for row in handouts(DECK, 2, 2, (99, 99, 1))], ["one", "three", "four"])

    def test_no_slides(self):
        self.told(0, 1, 1, (4, 3, 0))

    def test_forty_slides(self):
        told = handouts(shown(40), 3, 4, (99, 99, 1))
        self.assertEqual([row[1] for row in told], [0] * 12 + [1] * 12 + [2] * 12 + [3] * 4)

    def test_great_pages(self):
        big = 10**60
        self.told(2, 1, 2, (4 * big, 6 * big, 0), (0, 0, 0, 4 * big, 3 * big), (0, 0, 3 * big, 4 * big, 3 * big))
        self.told(2, big, 1, (4 * big, 3, 0), (0, 0, 0, 4, 3), (0, 4, 0, 4, 3))

    def test_as_the_words_tell(self):
        deck = shown(7)
        for across in (1, 2, 3):
            for down in (1, 2):
                for page in ((60, 40, 0), (61, 47, 2), (77, 33, 3), (40, 90, 5)):
                    wide, high, gap = page
                    cell_wide = (wide - (across + 1) * gap) // across
                    cell_high = (high - (down + 1) * gap) // down
                    m = max(k for k in range(1, 99) if 4 * k <= cell_wide and 3 * k <= cell_high)
                    for k, row in enumerate(handouts(deck, across, down, page)):
                        left = gap + (k % across) * (cell_wide + gap)
                        top = gap + (k // across % down) * (cell_high + gap)
                        self.assertEqual(row, (f"s{k}", k // (across * down), left, top, 4 * m, 3 * m))
                        self.assertLessEqual(left + 4 * m + gap, wide)
                        self.assertLessEqual(top + 3 * m + gap, high)

    def test_the_list_is_the_askers_own(self):
        deck = shown(2)
        told = handouts(deck, 1, 1, (4, 3, 0))
        self.assertEqual({type(row) for row in told}, {tuple})
        told.clear()
        self.assertEqual(len(handouts(deck, 1, 1, (4, 3, 0))), 2)


class RefusalTest(unittest.TestCase):
    def refused(self, across, down, page):
        for deck in (DECK, (MASTERS, ()), deck_of(1)):
            self.assertRaises(NoRoom, handouts, deck, across, down, page)

    def test_m_of_one_and_of_less(self):
        self.assertEqual(len(handouts(DECK, 1, 1, (4, 3, 0))), 3)
        self.refused(1, 1, (3, 3, 0))
        self.refused(1, 1, (4, 2, 0))
        self.refused(1, 1, (999, 2, 0))
        self.refused(1, 1, (3, 999, 0))

    def test_m_of_less_by_cells_and_gaps(self):
        self.assertEqual(len(handouts(DECK, 3, 2, (12 + 4, 6 + 3, 1))), 3)
        self.refused(3, 2, (12 + 3, 6 + 3, 1))
        self.refused(3, 2, (12 + 4, 6 + 2, 1))
        self.refused(1, 1, (10, 10, 4))
        self.refused(1, 1, (10, 10, 10))
        self.refused(1, 1, (10, 10, 10**60))
        self.refused(10**60, 1, (10, 10, 0))
        self.refused(1, 10**60, (10, 10, 1))

    def test_each_number_at_nought(self):
        self.refused(0, 1, (WIDE, HIGH, 0))
        self.refused(1, 0, (WIDE, HIGH, 0))
        self.refused(1, 1, (0, HIGH, 0))
        self.refused(1, 1, (WIDE, 0, 0))
        self.refused(1, 1, (WIDE, HIGH, -1))

    def test_each_number_of_another_kind(self):
        for thing in NO_NUMBERS:
            with self.subTest(kind=str(type(thing))):
                self.refused(thing, 1, (WIDE, HIGH, 0))
                self.refused(1, thing, (WIDE, HIGH, 0))
                self.refused(1, 1, (thing, HIGH, 0))
                self.refused(1, 1, (WIDE, thing, 0))
                self.refused(1, 1, (WIDE, HIGH, thing))

    def test_no_page(self):
        page = (WIDE, HIGH, 0)
        for thing in STRANGE + (None, 0, "", (), [], list(page), page[:2], page + (0,), (page,), [page], "433"):
            with self.subTest(kind=str(type(thing))):
                self.refused(1, 1, thing)

    def test_several_due(self):
        for thing in NO_NUMBERS:
            with self.subTest(kind=str(type(thing))):
                self.refused(thing, thing, (thing, thing, thing))
                self.refused(thing, thing, thing)
