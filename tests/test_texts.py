import unittest

from askedpairs.errors import NoRise, NoText, NotTwoSided, PairsError, TooMany
from askedpairs.texts import read, told
from tests.helper import (ANYTHING, EMPTY, GREAT, WEB, WIDE, changed, put, random_webs, read_by_words, same,
                          text_by_words, web_by_words)

SMALL = (2, ((0, 1, (1, 2), 10),), (3, 20), 7)
TEXT = "things 2 asks 7\nthing 3\nthing 20\ntie 0 1 1/2 10\n"
SIGNS = " \n/-+.,_0123456789aTt~\t\r\x0b\x0c\x1c\x85\u2028\u0661\u00b2\uff11\u00a0"


class Told(unittest.TestCase):
    def test_by_examples(self):
        self.assertTrue(same(told(EMPTY), "things 0 asks 0\n"))
        self.assertTrue(same(told((1, (), (0,), 40)), "things 1 asks 40\nthing 0\n"))
        self.assertTrue(same(told(SMALL), TEXT))
        self.assertEqual(told(GREAT).split("\n")[13], "tie 0 11 99/100 1000")
        self.assertEqual(told((2, ((0, 1, (0, 1), 0), (0, 1, (1, 1), 1)), (0, 0), 0)),
                         "things 2 asks 0\nthing 0\nthing 0\ntie 0 1 0/1 0\ntie 0 1 1/1 1\n")

    def test_by_words_and_read_back(self):
        for web in [EMPTY, SMALL, WEB, WIDE, GREAT] + random_webs(551, 200, 12, 16):
            text = told(web)
            self.assertTrue(same(text, text_by_words(web)))
            self.assertTrue(same(text, told(web)))
            self.assertTrue(same(read(text), web))
            self.assertTrue(same(read(text), read(text)))


class Read(unittest.TestCase):
    def look_over_text(self, text):
        web = read_by_words(text)
        if web is None:
            self.no(text)
        else:
            self.assertTrue(same(read(text), web), repr(text))
            self.assertEqual(told(web), text)

    def no(self, thing):
        with self.assertRaises(NoText, msg=repr(thing)) as caught:
            read(thing)
        self.assertIsInstance(caught.exception, PairsError)
        self.assertNotIsInstance(caught.exception, (TooMany, NoRise, NotTwoSided))

    def test_line_ends(self):
        self.assertTrue(same(read(TEXT), SMALL))
        for text in (TEXT[:-1], TEXT + "\n", "\n" + TEXT, TEXT.replace("\n", "\n\n", 1), TEXT.replace("\n", " ", 1),
                     TEXT.replace("\n", "\r\n"), TEXT + " ", TEXT + "\n\n", TEXT[:-1] + " \n", "", "\n",
                     TEXT.replace("\n", ""), TEXT + TEXT, "things 0 asks 0", "things 0 asks 0\n\n"):
            self.no(text)

    def test_noughts_blanks_and_signs(self):
        for old, new in (("asks 7", "asks 07"), ("things 2", "things 02"), ("thing 3", "thing 03"), ("1/2", "01/2"),
                         ("1/2", "1/02"), ("0 1 1/2", "00 1 1/2"), ("0 1 1/2", "0 01 1/2"), ("10\n", "010\n"),
                         ("asks 7", "asks +7"), ("asks 7", "asks -7"), ("thing 3", "thing -3"), ("1/2", "+1/2"),
                         ("1/2", "-1/2"), ("1/2", "1/-2"), ("1/2", "-1/-2"), ("0 1 1/2", "-0 1 1/2"),
                         ("10\n", "-10\n"), ("10\n", "+10\n"), ("things 2 ", "things 2  "), ("things 2", " things 2"),
                         ("asks 7", "asks 7 "), ("tie 0", " tie 0"), ("tie 0", "tie  0"), ("1/2", "1 /2"),
                         ("1/2", "1/ 2"), ("1/2", "1 / 2"), ("1/2", "1 2"), ("1/2", "1//2"), ("1/2", "1\\2"),
                         ("1/2", "1"), ("10\n", "10 \n"), ("10\n", "10\t\n"), ("thing 3", "thing\t3"),
                         ("1/2", "1/2/2"), ("10\n", "1 0\n"), ("10\n", "1_0\n"), ("10\n", "10.0\n"), ("10\n", "1e1\n")):
            self.assertIn(old, TEXT)
            self.no(TEXT.replace(old, new, 1))

    def test_words(self):
        for old, new in (("things", "thing"), ("things", "Things"), ("asks", "ask"), ("asks", "ASKS"), ("thing 3", "3"),
                         ("thing 3", "things 3"), ("thing 3", "thing"), ("tie", "ties"), ("tie ", ""), ("tie", "Tie"),
                         ("asks 7", "asks"), (" asks 7", ""), ("things 2 ", ""), (" 10\n", "\n"), ("0 1 ", "0 "),
                         ("10\n", "10 10\n"), ("10\n", "x\n"), ("10\n", "\n"), ("thing 3", "thing 3 3"),
                         ("things 2 asks 7", "asks 7 things 2"), ("thing 3\n", ""), ("thing 3\n", "thing 3\nthing 3\n"),
                         ("thing 20\ntie 0 1 1/2 10\n", "tie 0 1 1/2 10\nthing 20\n"), ("asks 7\n", "asks 7\n#\n"),
                         ("things 2 asks 7\n", ""), ("things 2", "things 1"), ("things 2", "things 3")):
            self.assertIn(old, TEXT)
            self.no(TEXT.replace(old, new, 1))
        self.assertTrue(same(read(TEXT.replace("tie 0 1 1/2 10\n", "")), put(SMALL, 1, ())))

    def test_chances(self):
        for chance in ("0/1", "1/1", "1/100", "99/100", "2/3", "1/2"):
            top, bottom = map(int, chance.split("/"))
            self.assertTrue(same(read(TEXT.replace("1/2", chance)), put(SMALL, 1, ((0, 1, (top, bottom), 10),))))
        for chance in ("2/4", "0/2", "2/2", "0/0", "1/0", "3/2", "2/1", "1/101", "100/101", "50/100", "0/100", "100/100"):
            self.no(TEXT.replace("1/2", chance))

    def test_numbers_at_their_bounds_and_beyond(self):
        for old, good, bad in (("asks 7", "asks 40", "asks 41"), ("asks 7", "asks 0", "asks 400"),
                               ("thing 3", "thing 20", "thing 21"), ("thing 3", "thing 0", "thing 100"),
                               ("10\n", "1000\n", "1001\n"), ("10\n", "0\n", "10000\n"), ("10\n", "999\n", "9999\n"),
                               ("0 1 1/2", "0 1 1/2", "0 2 1/2"), ("0 1 1/2", "0 1 1/2", "1 0 1/2"),
                               ("0 1 1/2", "0 1 1/2", "1 1 1/2"), ("0 1 1/2", "0 1 1/2", "0 0 1/2")):
            self.assertIsNotNone(read_by_words(TEXT.replace(old, good, 1)))
            self.look_over_text(TEXT.replace(old, good, 1))
            self.no(TEXT.replace(old, bad, 1))
            self.no(TEXT.replace(old, bad.replace("1", "1" * 60, 1) if "1" in bad else bad + "0" * 60, 1))
        # Thirteen things, seventeen ties.
        head = "things 12 asks 1\n" + "thing 1\n" * 12
        self.assertEqual(len(read(head + "tie 10 11 1/2 1\n" * 16)[1]), 16)
        self.no(head + "tie 10 11 1/2 1\n" * 17)
        self.no(head + "tie 10 12 1/2 1\n")
        self.no("things 13 asks 1\n" + "thing 1\n" * 13)
        self.no("things 12 asks 1\n" + "thing 1\n" * 13)
        self.no("things 12 asks 1\n" + "thing 1\n" * 11)
        self.no("things 5000 asks 1\n")
        self.no("things 9999 asks 9999\n")

    def test_long_texts(self):
        for text in ("things " + "9" * 1900 + " asks 1\n", "1" * 2000, "thing 1\n" * 250, "1 " * 1000,
                     "tie 0 1 1/2 1\n" * 140, " " * 2000, "\n" * 2000, "1" * 10000, TEXT * 40):
            self.no(text)

    def test_webs_a_little_beyond(self):
        # What is told of them is no web's text.
        for web in (put(SMALL, 3, 41), put(SMALL, 2, (3, 21)), put(SMALL, 1, ((0, 1, (1, 101), 10),)),
                    put(SMALL, 1, ((0, 1, (1, 2), 1001),)), put(SMALL, 1, SMALL[1] * 17),
                    (13, (), (0,) * 13, 0)):
            self.assertIs(web_by_words(web), False)
            self.no(told(web))

    def test_a_sign_left_out_put_in_or_exchanged(self):
        good = 0
        for text in (TEXT, "things 0 asks 0\n", told(put(WEB, 1, WEB[1][1:3]))):
            for at in range(len(text) + 1):
                texts = [text[:at] + text[at + 1:], text[:at], text[at:], text[:at] + text[at:at + 1] * 2 + text[at + 1:]]
                for sign in SIGNS:
                    texts += [text[:at] + sign + text[at:], text[:at] + sign + text[at + 1:]]
                for other in texts:
                    self.look_over_text(other)
                    good += read_by_words(other) is not None
        self.assertGreater(good, 100)

    def test_lines_left_out_put_in_and_exchanged(self):
        lines = told(WEB).splitlines(True)
        for at in range(len(lines)):
            self.look_over_text("".join(lines[:at] + lines[at + 1:]))
            for other in range(len(lines)):
                self.look_over_text("".join(lines[:at] + [lines[other]] + lines[at:]))
                self.look_over_text("".join(lines[:at] + [lines[other]] + lines[at + 1:]))
        # Ties may stand in any order, it is another web.
        self.assertTrue(same(read("".join(lines[:5] + lines[:4:-1])), put(WEB, 1, WEB[1][::-1])))

    def test_anything(self):
        for thing in ANYTHING + [WEB, EMPTY, SMALL, [TEXT], (TEXT,), {TEXT: TEXT}, TEXT.encode(), list(TEXT)]:
            self.no(thing)
        for thing in changed(SMALL):
            if type(thing) is not str:
                self.no(thing)


if __name__ == "__main__":
    unittest.main()
