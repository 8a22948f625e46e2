"""Webs written and read: point 6, and 2 and 5 as far as they speak of these."""

import re
import unittest

from namelesshall.errors import NoText, NoWeb
from namelesshall.webs import look
from namelesshall.webtexts import read_web, show_web
from samples import ALONE, MIXED, OWN_TIE, SELF_TIED, SEVERAL, WEBS, is_plain, line, ring, star

PAIR = "hand 0 1.0\nhand 1 0.0"
NUMBER = "(0|[1-9][0-9]?)"
ROW = re.compile(f"hand {NUMBER}( {NUMBER}[.]{NUMBER})*")


class Shown(unittest.TestCase):
    def test_one_hand(self):
        self.assertEqual(show_web(ALONE), "hand 0")
        self.assertEqual(show_web(SELF_TIED), "hand 3 0.0")
        self.assertEqual(show_web(OWN_TIE), "hand 0 0.1 0.0")

    def test_many_hands(self):
        self.assertEqual(show_web(SEVERAL), "hand 0 1.1 1.0 1.2\nhand 1 0.1 0.0 0.2")
        self.assertEqual(
            show_web(MIXED),
            "hand 9 1.0 2.1 0.2 2.0\nhand 0 0.0\nhand 5 0.3 0.1 2.3 2.2",
        )

    def test_hands_above_nine(self):
        rows = show_web(ring(12)).split("\n")
        self.assertEqual(len(rows), 12)
        self.assertEqual(rows[0], "hand 0 1.1 11.0")
        self.assertEqual(rows[9], "hand 0 10.1 8.0")
        self.assertEqual(rows[11], "hand 0 0.1 10.0")

    def test_ninety_nine_hands(self):
        rows = show_web(line(99)).split("\n")
        self.assertEqual(len(rows), 99)
        self.assertEqual(rows[0], "hand 0 1.0")
        self.assertEqual(rows[97], "hand 7 96.1 98.0")
        self.assertEqual(rows[98], "hand 8 97.1")

    def test_a_text_is_told(self):
        for web in WEBS:
            self.assertIs(type(show_web(web)), str)


class ReadBack(unittest.TestCase):
    def test_plain_texts(self):
        self.assertEqual(read_web("hand 7"), ((7, ()),))
        self.assertEqual(read_web("hand 0 0.1 0.0"), OWN_TIE)
        self.assertEqual(read_web(PAIR), ((0, ((1, 0),)), (1, ((0, 0),))))

    def test_each_web_is_read_from_its_text(self):
        for web in WEBS:
            self.assertEqual(read_web(show_web(web)), web)

    def test_what_is_read_is_shown_the_same(self):
        for web in WEBS:
            text = show_web(web)
            self.assertEqual(show_web(read_web(text)), text)

    def test_tuples_and_whole_numbers_are_told(self):
        for web in WEBS:
            self.assertTrue(is_plain(read_web(show_web(web))))

    def test_unlike_webs_have_unlike_texts(self):
        self.assertEqual(len({show_web(web) for web in WEBS}), len(set(WEBS)))


class NoSuchText(unittest.TestCase):
    def refused(self, text, row):
        with self.assertRaises(NoText) as caught:
            read_web(text)
        self.assertEqual(caught.exception.row, row, text)
        self.assertIs(type(caught.exception.row), int)

    def no_row(self, row):
        """Refused alone, and as the first, a middle and the last row of several."""
        self.refused(row, 0)
        self.refused(row + "\n" + PAIR, 0)
        self.refused("hand 0 2.0\n" + row + "\nhand 1 0.0", 1)
        self.refused(PAIR + "\n" + row, 2)

    def test_a_row_without_signs(self):
        self.no_row("")

    def test_a_line_feed_at_the_end(self):
        self.refused("hand 0\n", 1)
        self.refused(PAIR + "\n", 2)
        self.refused(PAIR + "\n\n", 2)

    def test_a_line_feed_at_the_begin(self):
        self.refused("\n" + PAIR, 0)

    def test_another_first_word(self):
        for word in ("hands", "han", "Hand", "HAND", "web", "0", "-hand", "hand:"):
            self.no_row(word + " 0")
        self.no_row("0 hand")
        self.no_row("hand0")
        self.no_row("0")

    def test_a_row_without_a_mark(self):
        self.no_row("hand")
        self.no_row("hand 0.0")
        self.no_row("hand 0.0 0")

    def test_blanks(self):
        for row in ("hand  0", " hand 0", "hand 0 ", "hand ", " ", "  ", "hand 0  0.0",
                    "hand 0 0.0 ", " hand 0 0.0", "hand 0 0. 0", "hand 0 0 .0",
                    "hand 0 0.1  0.0", "hand\t0", "hand 0\t0.0", "hand 0\r"):
            self.no_row(row)

    def test_a_nought_ahead_of_figures(self):
        for number in ("00", "01", "09", "000", "010"):
            self.no_row("hand " + number)
            self.no_row(f"hand 0 {number}.0")
            self.no_row(f"hand 0 0.{number}")

    def test_three_figures(self):
        for number in ("100", "999", "1000", "9" * 5000):
            self.no_row("hand " + number)
            self.no_row(f"hand 0 {number}.0")
            self.no_row(f"hand 0 0.{number}")

    def test_other_signs_amid_figures(self):
        for number in ("-1", "+1", "-0", "+0", "1_", "_1", "1_1", "a", "1a", "x1", "1,", ",", "1-",
                       "0x", "~", "\u0663", "\u00b2", "1\u00b2", "\uff11"):
            self.no_row("hand " + number)
            self.no_row(f"hand 0 {number}.0")
            self.no_row(f"hand 0 0.{number}")

    def test_pegs_of_other_forms(self):
        for peg in ("0", ".0", "0.", ".", "..", "0.0.0", "0..0", ".0.0", "0.0.", "0,0", "0:0", "00"):
            self.no_row("hand 0 " + peg)
            self.no_row("hand 0 0.0 " + peg)
            self.no_row("hand 0 " + peg + " 0.1")

    def test_other_ends_of_rows_are_none(self):
        for sign in ("\r\n", "\r", "\v", "\f", "\x1c", "\x85", "\u2028", ";", " ; "):
            self.refused(PAIR.replace("\n", sign), 0)

    def test_an_earlier_row_goes_ahead(self):
        self.refused("hand 0\nhand x\nhand\n", 1)
        self.refused("hand 0\nhand 01\n", 1)
        self.refused("hand 0\nhand 0\n\nhand x", 2)
        self.refused("x\nhand 0\nx", 0)

    def test_ninety_ninth_row(self):
        self.refused(show_web(line(99)) + "0x", 98)
        self.refused(show_web(line(99)) + "\n", 99)


class NoWebOfRows(unittest.TestCase):
    def refused(self, text, word, at):
        with self.assertRaises(NoWeb) as caught:
            read_web(text)
        self.assertEqual((caught.exception.word, caught.exception.at), (word, at), text)

    def test_a_mark_of_two_figures(self):
        self.refused("hand 10", "mark", 0)
        self.refused("hand 99", "mark", 0)
        self.refused("hand 0 1.0\nhand 10 0.0", "mark", 1)

    def test_five_pegs(self):
        self.refused("hand 0 0.0 0.1 0.2 0.3 0.4", "pegs", 0)
        self.refused(PAIR + " 1.1 1.2 1.3 1.4", "pegs", 1)
        self.refused("hand 0" + " 0.0" * 200, "pegs", 0)

    def test_a_tie_that_does_not_lead_back(self):
        self.refused("hand 0 0.1 0.1", "tie", 0)
        self.refused("hand 0 1.0\nhand 0 1.0", "tie", 0)
        self.refused(PAIR + "\nhand 0 0.0", "tie", 2)

    def test_a_tie_to_what_is_not_there(self):
        self.refused("hand 0 99.0", "tie", 0)
        self.refused("hand 0 0.99", "tie", 0)
        self.refused("hand 0 1.0", "tie", 0)

    def test_hands_apart(self):
        self.refused("hand 0\nhand 0", "apart", 1)
        self.refused(PAIR + "\nhand 0 2.0", "apart", 2)
        self.refused("\n".join(["hand 0"] * 99), "apart", 1)

    def test_the_first_due(self):
        self.refused("hand 10 9.9 9.9 9.9 9.9 9.9\nhand 11", "mark", 0)
        self.refused("hand 0\nhand 0 0.0\nhand 10", "tie", 1)

    def test_where_some_row_is_none_that_goes_ahead(self):
        for text in ("hand 10", "hand 0 0.0 0.1 0.2 0.3 0.4", "hand 0 0.1 0.1", "hand 0\nhand 0"):
            for behind in ("\n", "\nhand", "\nhand 0 0.0.0", "\nhand 0 "):
                with self.assertRaises(NoText) as caught:
                    read_web(text + behind)
                self.assertEqual(caught.exception.row, text.count("\n") + 1)


class Nearby(unittest.TestCase):
    def test_texts_with_one_sign_changed(self):
        """Every text one sign away from some samples, beside the rows' form as a pattern."""
        for web in (ALONE, SELF_TIED, SEVERAL, MIXED, star(3), line(11)):
            text = show_web(web)
            for at in range(len(text) + 1):
                for sign in ("", " ", ".", "0", "1", "9", "h", "-", "\n"):
                    self.check(text[:at] + sign + text[at + 1:])
                    self.check(text[:at] + sign + text[at:])

    def check(self, text):
        wrong = [at for at, row in enumerate(text.split("\n")) if not ROW.fullmatch(row)]
        told = outcome(text)
        if wrong:
            self.assertEqual(told, ("text", wrong[0]), text)
            return
        try:
            look(plainly_read(text))
        except NoWeb as error:
            self.assertEqual(told, (error.word, error.at), text)
        else:
            self.assertEqual(told, plainly_read(text))
            self.assertEqual(show_web(told), text)


class AskedAgain(unittest.TestCase):
    def test_nothing_is_changed_and_the_same_is_told(self):
        texts = [show_web(web) for web in WEBS]
        refused = ["", "\n", "hand", "hand 10", "hand 0\nhand 0", PAIR + "\n"]
        for text in texts + refused + texts:
            self.assertEqual(outcome(text), outcome(text))
        for web in WEBS:
            ahead = repr(web)
            self.assertEqual(show_web(web), show_web(web))
            self.assertEqual(repr(web), ahead)


def outcome(text):
    """The web, or what the refusal kept."""
    try:
        return read_web(text)
    except NoText as error:
        return ("text", error.row)
    except NoWeb as error:
        return (error.word, error.at)


def plainly_read(text):
    """The web of a text of rows of the right form."""
    web = []
    for row in text.split("\n"):
        mark, *pegs = row.split()[1:]
        ends = tuple(tuple(int(number) for number in peg.split(".")) for peg in pegs)
        web.append((int(mark), ends))
    return tuple(web)


if __name__ == "__main__":
    unittest.main()
