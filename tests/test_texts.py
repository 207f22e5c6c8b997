import itertools
import re
import unittest

from leaperwalk.errors import BadText
from leaperwalk.texts import read, shown
from tests.samples import FLOORS, LEAPS, OTHER_KINDS, grown, scattered, small_floors, whole, without

ALL_FLOORS = FLOORS + [scattered(count, seed) for count in range(1, 25) for seed in range(5)] + [
    grown(leap, count, 1) for leap in LEAPS for count in (1, 3, 8, 24)
]


def is_written_floor(text):
    if not re.fullmatch(r"([#.]+\n){1,8}", text):
        return False
    lines = text[:-1].split("\n")
    return (
        len({len(line) for line in lines}) == 1
        and len(lines[0]) <= 8
        and "#" in lines[-1]
        and any(line[-1] == "#" for line in lines)
        and text.count("#") <= 24
    )


class Shown(unittest.TestCase):
    def test_known_texts(self):
        self.assertEqual(shown(((0, 0),)), "#\n")
        self.assertEqual(shown(((0, 2),)), "..#\n")
        self.assertEqual(shown(((2, 0),)), ".\n.\n#\n")
        self.assertEqual(shown(((7, 7),)), "........\n" * 7 + ".......#\n")
        self.assertEqual(shown(whole(2, 3)), "###\n###\n")
        self.assertEqual(shown(without(whole(3, 3), (1, 1))), "###\n#.#\n###\n")
        self.assertEqual(shown(((0, 3), (2, 1))), "...#\n....\n.#..\n")
        self.assertEqual(shown(((1, 0), (1, 4), (2, 2))), ".....\n#...#\n..#..\n")

    def test_each_sign_in_its_place(self):
        for floor in ALL_FLOORS:
            told = shown(floor)
            self.assertIs(type(told), str)
            self.assertTrue(told.endswith("\n"))
            lines = told[:-1].split("\n")
            self.assertEqual(len(lines), max(cell[0] for cell in floor) + 1)
            for row, line in enumerate(lines):
                self.assertEqual(len(line), max(cell[1] for cell in floor) + 1)
                for column, sign in enumerate(line):
                    self.assertEqual(sign, "#" if (row, column) in floor else ".")


class Read(unittest.TestCase):
    def check_text(self, text):
        if is_written_floor(text):
            told = read(text)
            self.assertIs(type(told), tuple)
            self.assertEqual(shown(told), text)
        else:
            with self.assertRaises(BadText, msg=repr(text)):
                read(text)

    def test_known_floors(self):
        self.assertEqual(read("#\n"), ((0, 0),))
        self.assertEqual(read("...#\n....\n.#..\n"), ((0, 3), (2, 1)))
        self.assertEqual(read(".##\n#..\n"), ((0, 1), (0, 2), (1, 0)))

    def test_what_is_shown_is_read_to_the_same_floor(self):
        for floor in ALL_FLOORS + list(small_floors(2, 4)) + list(small_floors(4, 2)):
            told = read(shown(floor))
            self.assertIs(type(told), tuple)
            self.assertTrue(all(type(cell) is tuple for cell in told))
            self.assertEqual(told, floor)

    def test_all_short_texts(self):
        for length in range(9):
            for signs in itertools.product("#.\n", repeat=length):
                self.check_text("".join(signs))

    def test_good_texts_with_one_sign_more_less_or_other(self):
        for floor in ALL_FLOORS[::4] + [whole(2, 2), whole(3, 8), ((0, 3), (2, 1))]:
            text = shown(floor)
            for place in range(len(text) + 1):
                self.check_text(text[:place] + text[place + 1:])
                for sign in "#.\n x\r":
                    self.check_text(text[:place] + sign + text[place:])
                    self.check_text(text[:place] + sign + text[place + 1:])

    def test_things_of_other_kinds(self):
        others = [thing for thing in OTHER_KINDS if type(thing) is not str]
        others += [b"#\n", bytearray(b"#\n"), ["#\n"], ("#\n",), ["#", "\n"], ((0, 0),), {"#\n": 1}, whole(2, 2)]
        for place, thing in enumerate(others):
            with self.subTest(place=place):
                self.assertRaises(BadText, read, thing)

    def test_empty_texts_and_floors_without_a_cell(self):
        for text in ("", "\n", "\n\n", ".\n", "...\n...\n", ".", " ", "\n" * 8):
            self.assertRaises(BadText, read, text)

    def test_no_line_end_at_the_end_or_one_too_many(self):
        for text in ("#", "##\n##", "#\n\n", "\n#\n", "##\n\n##\n", "#\n#\n\n\n"):
            self.assertRaises(BadText, read, text)

    def test_other_signs(self):
        for sign in " xX0*-_,:;'\"\\\t\r\0\v\f\x1c\x85\xa0\u2028\u2029\uff03\uff0e\u00b7\ufeff":
            for text in (f"#{sign}#\n", f"{sign}#\n", f"#{sign}\n", f"#\n{sign}", f"{sign}", f"##\n#{sign}\n"):
                with self.subTest(text=text):
                    self.assertRaises(BadText, read, text)
        for text in ("#\r\n", "#\r", "##\r\n##\r\n", "#\n\r", "#\u2028", "#\x0b", "#\\n", "#\x85#\n"):
            self.assertRaises(BadText, read, text)

    def test_lines_of_unlike_widths(self):
        for text in ("##\n#\n", "#\n##\n", "#.\n#\n", "#\n.#\n", "###\n##\n###\n", "##\n#..\n", "..\n#\n"):
            self.assertRaises(BadText, read, text)

    def test_a_last_row_or_column_without_a_cell(self):
        for text in ("#.\n", "#\n.\n", "##.\n##.\n", "##\n##\n..\n", "#..\n...\n", "#.\n..\n", "#.......\n"):
            self.assertRaises(BadText, read, text)

    def test_a_first_row_or_column_without_a_cell(self):
        self.assertEqual(read("..\n.#\n"), ((1, 1),))
        self.assertEqual(read("........\n" * 7 + ".......#\n"), ((7, 7),))

    def test_just_24_cells(self):
        self.assertEqual(read("########\n" * 3), whole(3, 8))
        self.assertEqual(read("######\n" * 4), whole(4, 6))
        for text in ("#####\n" * 5, "########\n" * 8, "########\n" * 3 + "#.......\n", "###\n" * 8 + "#..\n"):
            self.assertRaises(BadText, read, text)

    def test_rows_and_columns_up_to_7(self):
        self.assertEqual(read("#\n" * 8), whole(8, 1))
        self.assertEqual(read("########\n"), whole(1, 8))
        for text in (
            "#\n" * 9, "#########\n", ".\n" * 8 + "#\n", "........#\n", "#\n" * 24, "#" * 24 + "\n",
            "." * 8 + "#\n" + "#" + "." * 8 + "\n", "." * 100 + "#\n", ".\n" * 100 + "#\n",
        ):
            self.assertRaises(BadText, read, text)


if __name__ == "__main__":
    unittest.main()
