import unittest

from oracle import small_gardens, told
from thirstwise.errors import BadRow
from thirstwise.gardens import Garden
from thirstwise.notes import read, written
from thirstwise.pots import Cactus, Pot

BED = "garden 2 7 5 6\npot fern 3\ncactus agave 5 2"
TOLD = ([["pot", "fern", "3"], ["cactus", "agave", "5", "2"]], 2, 7, 96)


class WrittenTest(unittest.TestCase):

    def test_texts_to_the_sign(self):
        self.assertEqual(written(Garden([Pot("fern", 3), Cactus("agave", 5, 2)], 2, 7, 96)), BED)
        self.assertEqual(written(Garden([Pot("fern", 60)])), "garden 1 1\npot fern 60")
        self.assertEqual(written(Garden([Cactus("agave", 1, 0)], 0, 1, 1)), "garden 0 1 0\ncactus agave 1 0")

    def test_closed_days_rise(self):
        fern = Pot("fern", 3)
        self.assertEqual(written(Garden([fern], 8, 14, 2 ** 14 - 1)),
                         "garden 8 14 0 1 2 3 4 5 6 7 8 9 10 11 12 13\npot fern 3")
        self.assertEqual(written(Garden([fern], 8, 14, 2 ** 13 + 2 ** 9 + 1)), "garden 8 14 0 9 13\npot fern 3")

    def test_pots_in_their_order(self):
        garden = Garden([Pot("zinnia", 2), Cactus("aloe", 3, 0), Pot("basil", 1)])
        self.assertEqual(written(garden), "garden 1 1\npot zinnia 2\ncactus aloe 3 0\npot basil 1")
        self.assertEqual(told(garden)[0], [["pot", "zinnia", "2"], ["cactus", "aloe", "3", "0"], ["pot", "basil", "1"]])

    def test_read_and_written_again(self):
        eight = Garden([Pot(name * 12, 2) for name in "abcdefgh"], 8, 14, 2 ** 13 + 1)
        for garden in small_gardens() + [eight]:
            again = read(written(garden))
            self.assertEqual(told(again), told(garden))
            self.assertEqual([type(pot) for pot in again.pots], [type(pot) for pot in garden.pots])
            self.assertEqual(written(again), written(garden))


class ReadTest(unittest.TestCase):

    def test_a_garden(self):
        garden = read(BED)
        self.assertIs(type(garden), Garden)
        self.assertEqual(told(garden), TOLD)
        self.assertIs(type(garden.pots[0]), Pot)
        self.assertIs(type(garden.pots[1]), Cactus)

    def test_blanks(self):
        for text in ("  garden 2 7 5 6\n pot fern 3\n   cactus agave 5 2", "garden   2  7 5  6\npot  fern   3\n"
                     "cactus agave  5   2", "garden 2 7 5 6  \npot fern 3 \ncactus agave 5 2   ",
                     " garden  2 7  5 6 \n  pot  fern 3  \n cactus  agave 5  2 "):
            with self.subTest(text=text):
                self.assertEqual(told(read(text)), TOLD)
                self.assertEqual(written(read(text)), BED)

    def test_empty_rows_and_remarks(self):
        for text in ("\n" + BED, BED + "\n", "\n\n" + BED + "\n\n\n", "   \n" + BED + "\n ",
                     "# a remark\n" + BED, "#\n" + BED + "\n#", "  # a remark\n" + BED + "\n   #more",
                     "#garden 1 1\n" + BED + "\n#pot moss 3", "##\n\n#\ttab\n" + BED,
                     "garden 2 7 5 6\n\n# a remark\n  \npot fern 3\n#pot fern 3\n\ncactus agave 5 2\n# \n"):
            with self.subTest(text=text):
                self.assertEqual(told(read(text)), TOLD)

    def test_numbers_at_their_bounds(self):
        self.assertEqual(told(read("garden 0 1\npot a 1")), ([["pot", "a", "1"]], 0, 1, 0))
        self.assertEqual(told(read("garden 8 14 0 13\npot abcdefghijkl 60")),
                         ([["pot", "abcdefghijkl", "60"]], 8, 14, 2 ** 13 + 1))
        self.assertEqual(told(read("garden 1 1 0\ncactus a 1 0")), ([["cactus", "a", "1", "0"]], 1, 1, 1))
        self.assertEqual(told(read("garden 1 1\ncactus a 60 59")), ([["cactus", "a", "60", "59"]], 1, 1, 0))
        self.assertEqual(read("garden 1 1\npot a 50\npot b 40\npot c 10").size(), 20000)

    def test_eight_pots(self):
        text = "garden 1 1\n" + "\n".join(f"pot {name} 3" for name in "abcdefgh")
        self.assertEqual([pot.name for pot in read(text).pots], list("abcdefgh"))


class BadRowTest(unittest.TestCase):

    def refused(self, row, text):
        with self.subTest(text=text):
            with self.assertRaises(BadRow) as caught:
                read(text)
            self.assertEqual(caught.exception.row, row)

    def test_the_first_row_with_words_is_none(self):
        for line in ("garden", "garden 1", "Garden 1 1", "gardens 1 1", "pot fern 3", "cactus agave 5 2", "1 1",
                     "garden1 1", "garden one 1", "garden 1 one", "garden 1 1 x", "garden 01 1", "garden 1 01",
                     "garden 00 1", "garden 1 7 00", "garden 1 7 01", "garden 100 1", "garden 1 100", "garden 1 7 005",
                     "garden +1 1", "garden -1 1", "garden 1 +1", "garden 1 -1", "garden 1 7 -1", "garden 1 7 +1",
                     "garden 1.0 1", "garden 1 7 5,6", "garden 1_1 1", "garden\t1 1", "garden 1\t1", "garden 1 1\t",
                     "\tgarden 1 1", "\t", "\t# remark", "garden 1 1 # remark", "x # remark", "-", "garden 1 7 #5"):
            self.refused(1, line)
            self.refused(1, line + "\npot fern 3")
            self.refused(4, "\n# a remark\n  \n" + line + "\npot fern 3\n")

    def test_closed_days_that_do_not_rise(self):
        for line in ("garden 1 7 5 5", "garden 1 7 6 5", "garden 1 7 0 2 1", "garden 1 7 0 0", "garden 1 7 1 0",
                     "garden 1 14 9 10 2"):
            self.refused(1, line + "\npot fern 3")
            self.refused(2, "\n" + line + "\npot fern 3")

    def test_closed_days_outside_of_the_week(self):
        for line in ("garden 1 7 7", "garden 1 7 0 7", "garden 1 7 99", "garden 1 1 1", "garden 1 14 14",
                     "garden 1 0 0", "garden 1 20 20", "garden 99 2 2"):
            self.refused(1, line + "\npot fern 3")
            self.refused(3, "#\n#\n" + line + "\npot fern 3")

    def test_a_further_row_is_none(self):
        for line in ("pot", "pot moss", "pot moss 3 1", "pot 3 moss", "Pot moss 3", "pots moss 3", "cactus",
                     "cactus moss", "cactus moss 3", "cactus moss 3 1 1", "Cactus moss 3 1", "moss 3", "garden 2 7 5 6",
                     "garden 1 1", "garden", "x", "pot Moss 3", "pot mo-ss 3", "pot abcdefghijklm 3", "pot moss1 3",
                     "pot moss 0", "pot moss 61", "pot moss 99", "cactus moss 0 0", "cactus moss 61 1",
                     "cactus moss 3 3", "cactus moss 3 4", "cactus moss 1 1", "pot moss 03", "pot moss 003",
                     "pot moss 100", "pot moss +3", "pot moss -3", "pot moss 3.0", "pot moss x", "cactus moss 3 01",
                     "cactus moss 3 00", "cactus moss 03 1", "cactus moss 3 +1", "cactus moss 3 -1",
                     "cactus moss 3 100", "pot moss 3\t", "pot\tmoss 3", "pot moss\t3", "pot \tmoss 3", "\tpot moss 3",
                     "\t", "\t#", "pot moss 3 # remark", "pot moss #", "pot # 3"):
            self.refused(2, "garden 1 1\n" + line)
            self.refused(3, "garden 1 1\npot fern 3\n" + line + "\npot sage 3")
            self.refused(7, "\ngarden 1 1\n# a remark\npot fern 3\n \n\n " + line + " \n\n")

    def test_a_name_twice(self):
        self.refused(3, "garden 1 1\npot fern 3\npot fern 3")
        self.refused(3, "garden 1 1\npot fern 3\ncactus fern 4 1\npot fern 3")
        self.refused(6, "garden 1 1\npot fern 3\n\n#\npot moss 3\ncactus fern 4 1\n")

    def test_the_first_of_several(self):
        self.refused(1, "garden\npot\npot")
        self.refused(2, "garden 1 1\npot\npot fern 3\npot fern 3")
        self.refused(3, "garden 1 1\npot fern 3\npot fern 3\npot")
        self.refused(3, "garden 99 99\npot fern 3\npot moss 0")
        self.refused(2, "garden 9 15\nx")

    def test_no_row(self):
        self.refused(2, "")
        self.refused(2, "   ")
        self.refused(2, "# garden 1 1")
        self.refused(3, "\n")
        self.refused(4, "#\n\n  ")

    def test_no_pot(self):
        self.refused(2, "garden 1 1")
        self.refused(3, "garden 1 1\n")
        self.refused(5, "\ngarden 1 7 5 6\n#pot fern 3\n")

    def test_nine_pots(self):
        rows = ["garden 1 1"] + [f"pot {name} 1" for name in "abcdefghi"]
        self.refused(11, "\n".join(rows))
        self.refused(13, "\n".join(rows) + "\n\n#")
        self.refused(11, "\n".join(rows + ["pot z 0"]))
        self.refused(11, "\n".join(rows + ["pot a 1"]))

    def test_too_many_states(self):
        self.refused(5, "garden 1 1\npot a 57\npot b 39\npot c 9")
        self.refused(5, "garden 1 9\npot a 57\npot b 39\n")
        self.refused(5, "garden 1 1\npot a 60\npot b 60\ncactus c 60 59")

    def test_cans_out_of_their_bounds(self):
        self.refused(3, "garden 9 1\npot fern 3")
        self.refused(4, "garden 99 7 5 6\npot fern 3\n")

    def test_a_week_out_of_its_bounds(self):
        self.refused(3, "garden 1 0\npot fern 3")
        self.refused(3, "garden 1 15\npot fern 3")
        self.refused(3, "garden 1 15 14\npot fern 3")
        self.refused(4, "garden 1 99 0 50 98\npot fern 3\n#")


if __name__ == "__main__":
    unittest.main()
