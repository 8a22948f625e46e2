"""The desk: points 38 and 39."""

import itertools
import random
import unittest

from drawn import drawn_programs, drawn_webs
from namelesshall.answering import answering
from namelesshall.beneath import beneath, is_own
from namelesshall.desk import Desk
from namelesshall.errors import HallError, NoName, NoProgram, NoRow, NoText, NoWeb
from namelesshall.making import first_program
from namelesshall.parting import parted
from namelesshall.programtexts import read_program, show_program
from namelesshall.runs import in_step
from namelesshall.values import show_value
from namelesshall.webtexts import read_web, show_web
from samples import SMALL, alike_row, eight_handed, late_row, line, ring, star
from test_making import structured
from test_programs import WORDS
from test_programtexts import NO_ROWS

PAIR = "hand 1 1.0 ; hand 2 0.0"
TWINS = "hand 0 1.0 ; hand 0 0.0"
FIRST_WORDS = ("web", "text", "least", "keep", "parted", "run", "first", "apart")
NO_NAMES = ("abcdefg", "program", "A", "aB", "Ab", "a1", "1", "0", "a.b", "a-b", "-", "a_", "~", ";", "a;", "\u00e9",
            "\u00df", "a\tb", "[a]", "(a)", "a,b", "\uff41")
NO_FIGURES = ("00", "01", "007", "+1", "-1", "-0", "+0", "a", "1a", "a1", "1.0", "1.", ".1", "x", "1_0", "0x1", "1e1",
              "\u0661", "\u00b2", "[1]", "(1)", "1,", "H", "-", "", " 1")
LONG = ("1" * 400, "9" * 5000, "1" + "0" * 15000)


def one_row(text):
    """A text with line feeds, in one row."""
    return text.replace("\n", " ; ")


def desk_of(**texts):
    """A desk that keeps these texts by their names."""
    desk = Desk()
    for name, text in texts.items():
        sort = "web" if text.startswith("hand") else "program"
        assert desk.say(f"{sort} {name} {text}") == "kept"
    return desk


class Desks(unittest.TestCase):
    def told(self, desk, row, expected):
        told = desk.say(row)
        self.assertEqual(told, expected, row)
        self.assertIs(type(told), str)

    def refused(self, desk, said, kind, /, **fields):
        """Refused so, and all that was kept is told as before."""
        ahead = self.all_kept(desk)
        with self.assertRaises(HallError, msg=repr(said[:300])) as caught:
            desk.say(said)
        self.assertIs(type(caught.exception), kind, repr(said[:300]))
        for field, value in fields.items():
            self.assertEqual(getattr(caught.exception, field), value, repr(said[:300]))
        self.assertEqual(self.all_kept(desk), ahead, repr(said[:300]))

    def all_kept(self, desk):
        """What the desk tells of each name that tests use."""
        told = []
        for name in ("a", "b", "c", "p", "q", "w", "big", "six", "new", "set", "web", "text"):
            try:
                told.append((name, desk.say(f"text {name}")))
            except NoName as refusal:
                told.append((name, refusal.name))
        return told


class Keeping(Desks):
    def test_webs(self):
        desk = Desk()
        for at, web in enumerate(SMALL + eight_handed()):
            name = "wxyz"[at % 4]
            text = one_row(show_web(web))
            self.told(desk, f"web {name} {text}", "kept")
            self.told(desk, f"text {name}", text)

    def test_programs(self):
        desk = Desk()
        for at, program in enumerate(drawn_programs(38, 80, 4) + [first_program(n) for n in range(1, 7)]):
            name = "wxyz"[at % 4]
            text = one_row(show_program(program))
            self.told(desk, f"program {name} {text}", "kept")
            self.told(desk, f"text {name}", text)

    def test_one_row_and_several(self):
        desk = Desk()
        self.told(desk, "web a hand 0", "kept")
        self.told(desk, "text a", "hand 0")
        self.told(desk, "web a hand 1 1.0 ; hand 2 0.0", "kept")
        self.told(desk, "text a", "hand 1 1.0 ; hand 2 0.0")
        self.told(desk, "program p end 1", "kept")
        self.told(desk, "text p", "end 1")
        self.told(desk, "program p set x (bundle 1 [2 []]) ; go 0 ; end x", "kept")
        self.told(desk, "text p", "set x (bundle 1 [2 []]) ; go 0 ; end x")

    def test_what_the_name_kept_ahead_is_gone(self):
        desk = desk_of(a=PAIR, b=TWINS)
        self.told(desk, "web a hand 5", "kept")
        self.told(desk, "text a", "hand 5")
        self.told(desk, "text b", TWINS)
        self.told(desk, "least a", "1 0")

    def test_a_web_by_the_name_of_a_program_and_the_other_way_about(self):
        desk = desk_of(a=PAIR, p="end mark")
        self.told(desk, "web p hand 4", "kept")
        self.told(desk, "text p", "hand 4")
        self.told(desk, "least p", "1 0")
        self.refused(desk, "run p a 5", NoRow)
        self.told(desk, "program a end pegs", "kept")
        self.told(desk, "text a", "end pegs")
        self.refused(desk, "least a", NoRow)
        self.told(desk, "run a p 5", "over 1 0")

    def test_names_that_are_words(self):
        for name in WORDS + FIRST_WORDS + ("a", "z", "abcdef", "zzzzzz", "kept", "bar", "led"):
            if len(name) > 6:
                continue
            desk = Desk()
            self.told(desk, f"web {name} {PAIR}", "kept")
            self.told(desk, f"text {name}", PAIR)
            self.told(desk, f"least {name}", "2 0 1")
            self.told(desk, f"first {name}", "first")
            self.told(desk, f"parted {name} 0 {name} 1", "at once")
            self.told(desk, f"apart {name} {name}", "bar")
            self.told(desk, f"keep {name} {name}", PAIR)
            self.told(desk, f"program {name} end 3", "kept")
            self.told(desk, "web a hand 0", "kept")
            if name != "a":
                self.told(desk, f"run {name} a 9", "over 1 3")

    def test_two_desks_keep_their_own(self):
        one, other = desk_of(a=PAIR), Desk()
        self.refused(other, "text a", NoName, name="a")
        self.told(other, f"web a {TWINS}", "kept")
        self.told(one, "text a", PAIR)
        self.told(other, "text a", TWINS)
        self.told(other, "keep b a", "hand 0 0.0")
        self.refused(one, "text b", NoName, name="b")


class Semicolons(Desks):
    def test_two_that_share_a_blank(self):
        desk = desk_of(a=PAIR)
        # The left one stands for a line feed: `; hand 2 0.0` is row 1.
        self.refused(desk, "web a hand 1 1.0 ; ; hand 2 0.0", NoText, row=1)
        self.refused(desk, "program a end 1 ; ; end 2", NoText, row=1)
        # Of three the first and the third: the row between is `;`.
        self.refused(desk, "web a hand 1 1.0 ; ; ; hand 2 0.0", NoText, row=1)
        self.refused(desk, "program a end 1 ; ; ; end 2", NoText, row=1)
        self.refused(desk, "program a end 1 ; end 2 ; ; end 2", NoText, row=2)
        # The left one, not the right one: else row 0 would be the first that is none.
        self.refused(desk, "program a end 1 ; ; go", NoText, row=1)

    def test_as_first_word_of_the_text(self):
        desk = desk_of(a=PAIR)
        self.refused(desk, "web a ; hand 0", NoText, row=0)
        self.refused(desk, "program a ; end 1", NoText, row=0)
        self.refused(desk, "program a ; end 1 ; go", NoText, row=0)
        self.refused(desk, "web a ;", NoText, row=0)
        self.refused(desk, "program a ;", NoText, row=0)

    def test_as_last_word_of_the_text(self):
        desk = desk_of(a=PAIR)
        self.refused(desk, "web a hand 0 ;", NoText, row=0)
        self.refused(desk, "program a end 1 ;", NoText, row=0)
        self.refused(desk, "program a end 1 ; end 2 ;", NoText, row=1)
        self.refused(desk, "web a ; ;", NoText, row=0)
        self.refused(desk, "web a ; ; ;", NoText, row=0)
        self.refused(desk, "program a end 1 ; ;", NoText, row=1)

    def test_without_blanks_it_is_a_sign_like_others(self):
        desk = desk_of(a=PAIR)
        self.refused(desk, "program a end 1; end 2", NoText, row=0)
        self.refused(desk, "program a end 1 ;end 2", NoText, row=0)
        self.refused(desk, "program a end 1;end 2", NoText, row=0)
        self.refused(desk, "web a hand 0 ; hand; 0", NoText, row=1)


class Telling(Desks):
    def test_least(self):
        desk = Desk()
        for web in SMALL + eight_handed() + structured()[::5]:
            desk.say("web a " + one_row(show_web(web)))
            least, leading = beneath(web)
            self.told(desk, "least a", f"{len(least)} " + " ".join(map(str, leading)))
        self.told(desk_of(a=TWINS), "least a", "1 0 0")
        self.told(desk_of(a=PAIR), "least a", "2 0 1")

    def test_keep_by_another_name(self):
        desk = desk_of(a=TWINS, b=PAIR, p="end 1")
        self.told(desk, "keep c a", "hand 0 0.0")
        self.told(desk, "text c", "hand 0 0.0")
        self.told(desk, "text a", TWINS)
        self.told(desk, "keep b a", "hand 0 0.0")
        self.told(desk, "text b", "hand 0 0.0")
        self.told(desk, "keep p a", "hand 0 0.0")
        self.told(desk, "least p", "1 0")

    def test_keep_by_its_own_name(self):
        desk = desk_of(a=TWINS)
        self.told(desk, "keep a a", "hand 0 0.0")
        self.told(desk, "text a", "hand 0 0.0")
        self.told(desk, "keep a a", "hand 0 0.0")

    def test_keep_tells_the_least_web_as_text_does(self):
        desk = Desk()
        for web in SMALL + eight_handed() + structured()[::5]:
            desk.say("web a " + one_row(show_web(web)))
            text = one_row(show_web(beneath(web)[0]))
            self.told(desk, "keep b a", text)
            self.told(desk, "text b", text)
            self.told(desk, "least b", f"{len(beneath(web)[0])} " + " ".join(map(str, range(len(beneath(web)[0])))))

    def test_parted(self):
        desk = desk_of(a=one_row(show_web(line(5))), b=one_row(show_web(ring(3))), c=one_row(show_web(late_row(8))))
        self.told(desk, "parted a 0 a 4", "at once")
        self.told(desk, "parted a 2 a 2", "alike")
        self.told(desk, "parted b 0 b 2", "alike")
        self.told(desk, "parted a 0 b 0", "at once")
        web = late_row(8)
        self.assertEqual(max(len(parted(web, 7, web, hand) or ()) for hand in range(8)), 7)
        for hand, place in itertools.product(range(8), repeat=2):
            row = parted(web, hand, web, place)
            expected = "alike" if row is None else "at once" if row == () else " ".join(map(str, row))
            self.told(desk, f"parted c {hand} c {place}", expected)

    def test_parted_of_two_webs(self):
        webs = structured()[::4] + [ring(8), alike_row(8), alike_row(7)]
        seen = set()
        for one, other in itertools.product(webs, repeat=2):
            desk = desk_of(a=one_row(show_web(one)), b=one_row(show_web(other)))
            row = parted(one, len(one) - 1, other, 0)
            expected = "alike" if row is None else "at once" if row == () else " ".join(map(str, row))
            seen.add(expected if len(expected) > 3 else len(expected))
            self.told(desk, f"parted a {len(one) - 1} b 0", expected)
        self.assertTrue({"alike", "at once", 1} <= seen)

    def test_run_over(self):
        desk = desk_of(a=PAIR, p="set x mark ; end x", q="swap h mark ; end h")
        self.told(desk, "run p a 800", "over 2 1 2")
        self.told(desk, "run p a 2", "over 2 1 2")
        self.told(desk, "run q a 20", "over 3 [[0 2]] [[0 1]]")

    def test_run_stuck_and_spent(self):
        desk = desk_of(a=PAIR, p="test same mark 1 2 ; swap x 1 ; end [7 []]", q="go 0")
        self.told(desk, "run p a 800", "stuck 3 [7 []] -")
        self.told(desk, "run p a 3", "stuck 3 [7 []] -")
        self.told(desk, "run p a 2", "spent 2 [7 []] -")
        self.told(desk, "run p a 0", "spent 0 - -")
        self.told(desk, "run q a 0", "spent 0 - -")
        self.told(desk, "run q a 800", "spent 800 - -")

    def test_run_with_a_burst_hand(self):
        desk = desk_of(a=PAIR, p="test same mark 1 3 ; set x (bundle x x x x) ; go 1 ; end (bundle)")
        self.told(desk, "run p a 800", "over 10 [] -")

    def test_runs_as_in_step_tells(self):
        webs = drawn_webs(39, 3, 10) + [ring(8), star(4), line(1)]
        for at, program in enumerate(drawn_programs(391, 60)):
            web = webs[at % len(webs)]
            desk = desk_of(w=one_row(show_web(web)), p=one_row(show_program(program)))
            for rounds in (0, 1, 20, 800):
                word, ends, many = in_step(web, program, rounds)
                shown = ["-" if end is None else show_value(end) for end in ends]
                self.told(desk, f"run p w {rounds}", " ".join([word, str(many)] + shown))

    def test_a_long_number_as_an_end(self):
        desk = desk_of(a="hand 0", p="set x 1 ; set x (plus x x) ; set i (plus i 1) ; test ahead i 99 1 ; end x")
        self.told(desk, "run p a 800", f"over 299 {2 ** 99}")

    def test_first(self):
        desk = Desk()
        for web in structured():
            desk.say("web w " + one_row(show_web(web)))
            self.told(desk, "first w", "first" if is_own(web) else f"led {len(beneath(web)[0])}")
        self.told(desk_of(a=TWINS), "first a", "led 1")
        self.told(desk_of(a=PAIR), "first a", "first")
        self.told(desk_of(a=one_row(show_web(ring(6)))), "first a", "led 1")

    def test_apart(self):
        desk = desk_of(a=TWINS, b=PAIR, c="hand 0 0.0", six=one_row(show_web(ring(5))))
        self.told(desk, "apart a b", "program")
        self.told(desk, "apart a c", "bar")
        self.told(desk, "apart c a", "bar")
        self.told(desk, "apart b b", "bar")
        self.told(desk, "apart six a", "program")
        for one, other in itertools.product(drawn_webs(392, 2, 12, most_pegs=2), repeat=2):
            desk = desk_of(a=one_row(show_web(one)), b=one_row(show_web(other)))
            self.told(desk, "apart a b", answering((one,), (other,))[0])

    def test_what_is_made_is_kept_and_run(self):
        for n in range(1, 7):
            desk = desk_of(a=one_row(show_web(ring(n))), p=one_row(show_program(first_program(n))))
            word, ends, rounds = in_step(ring(n), first_program(n), 800)
            self.told(desk, "run p a 800", " ".join(["over", str(rounds)] + [str(end) for end in ends]))

    def test_asked_again_the_same_is_told(self):
        desk = desk_of(a=TWINS, b=PAIR, p="swap x mark ; end x")
        rows = ["text a", "text p", "least a", "keep c a", "parted a 0 b 1", "run p b 9", "first b", "apart a b"]
        told = [desk.say(row) for row in rows]
        chance = random.Random(38)
        for again in range(60):
            at = chance.randrange(len(rows))
            self.told(desk, rows[at], told[at])


def full_desk():
    """A desk with webs, two programs, webs of six and eight hands."""
    return desk_of(a=PAIR, b=TWINS, p="end mark", q="set x 1 ; end x", six=one_row(show_web(ring(6))),
                   big=one_row(show_web(ring(8))))


GOOD_ROWS = ("web new hand 0", "program new end 1", "text a", "least a", "keep new a", "parted a 0 b 1", "run p a 8",
             "first a", "apart a b")


class NoRows(Desks):
    """What is none of the rows goes ahead of all other refusals."""

    def test_the_good_rows_are_good(self):
        for row in GOOD_ROWS:
            full_desk().say(row)

    def test_the_row_without_signs_and_blanks(self):
        desk = full_desk()
        for row in ("", " ", "  ", "   "):
            self.refused(desk, row, NoRow)

    def test_blanks(self):
        desk = full_desk()
        for row in GOOD_ROWS:
            self.refused(desk, " " + row, NoRow)
            self.refused(desk, row + " ", NoRow)
            for at, sign in enumerate(row):
                if sign == " ":
                    self.refused(desk, row[:at] + " " + row[at:], NoRow)
                    if not row.startswith(("web", "program")):
                        self.refused(desk, row[:at] + "\t" + row[at + 1:], NoRow)

    def test_two_blanks_in_a_text(self):
        desk = full_desk()
        for text in ("hand 0 ;  hand 0", "hand 0  ; hand 0", "hand  0", "hand 0 ", " hand 0", "hand 0  ;  hand 0", "  ",
                     " ", "hand 0 ;  ; hand 0", "end 1 ; "):
            self.refused(desk, f"web a {text}", NoRow)
            self.refused(desk, f"program a {text}", NoRow)

    def test_another_count_of_words(self):
        desk = full_desk()
        for row in GOOD_ROWS:
            words = row.split(" ")
            for many in range(1, len(words)):
                left = " ".join(words[:many])
                if words[0] in ("web", "program") and many > 2:
                    continue
                self.refused(desk, left, NoRow)
                self.refused(desk, left + " ", NoRow)
            if words[0] not in ("web", "program"):
                self.refused(desk, row + " a", NoRow)
                self.refused(desk, row + " 1", NoRow)
                self.refused(desk, row + " ;", NoRow)

    def test_an_unknown_first_word(self):
        desk = full_desk()
        for word in ("Web", "webs", "we", "tell", "hand", "end", "a", "1", "TEXT", "leasts", "keeps", "part", "runs",
                     "firsts", "led", "bar", "program;", "prog", ";", "~", "kept", "say", "set", "above", "together"):
            for row in GOOD_ROWS:
                self.refused(desk, " ".join([word] + row.split(" ")[1:]), NoRow)
            self.refused(desk, word, NoRow)

    def test_names_that_are_none(self):
        desk = full_desk()
        for name in NO_NAMES:
            for row in (f"web {name} hand 0", f"program {name} end 1", f"text {name}", f"least {name}",
                        f"keep {name} a", f"keep new {name}", f"parted {name} 0 b 1", f"parted a 0 {name} 1",
                        f"run {name} a 8", f"run p {name} 8", f"first {name}", f"apart {name} b", f"apart a {name}"):
                self.refused(desk, row, NoRow)

    def test_figures_that_are_none(self):
        desk = full_desk()
        for figures in NO_FIGURES:
            self.refused(desk, f"parted a {figures} b 1", NoRow)
            self.refused(desk, f"parted a 0 b {figures}", NoRow)
            self.refused(desk, f"run p a {figures}", NoRow)

    def test_rounds(self):
        desk = full_desk()
        for rounds in ("801", "802", "999", "1000", "8000", "80000") + LONG:
            self.refused(desk, f"run p a {rounds}", NoRow)
        for rounds in (0, 1, 9, 10, 99, 100, 799, 800):
            self.assertEqual(desk.say(f"run p a {rounds}").split(" ")[0], "over" if rounds else "spent")

    def test_a_line_feed_anywhere(self):
        desk = full_desk()
        for row in GOOD_ROWS:
            for at in range(len(row) + 1):
                self.refused(desk, row[:at] + "\n" + row[at:], NoRow)
                if at < len(row):
                    self.refused(desk, row[:at] + "\n" + row[at + 1:], NoRow)
        self.refused(desk, "web a hand 1 1.0\nhand 2 0.0", NoRow)
        self.refused(desk, "program a end 1 ; end 2\n", NoRow)
        self.refused(desk, "\n", NoRow)

    def test_ahead_of_no_name(self):
        desk = full_desk()
        for row in ("text none x", "least none ", "keep new none x", "keep NEW none", "parted none 00 b 1",
                    "parted none 0 b +1", "parted none 0 B 1", "run none a 801", "run none a 08", "run none A 5",
                    "run none none x", "first none none", "apart none", "apart none B", "apart none b c"):
            self.refused(desk, row, NoRow)

    def test_ahead_of_no_text(self):
        desk = full_desk()
        for row in ("web A bad", "web abcdefg bad", "program A bad", "web a bad  text", "program a bad text ",
                    "program a bad\ntext"):
            self.refused(desk, row, NoRow)


class NoNames(Desks):
    def test_each_row(self):
        desk = full_desk()
        for row in ("text none", "least none", "keep new none", "keep none none", "parted none 0 b 1",
                    "parted a 0 none 1", "run none a 5", "run p none 5", "first none", "apart none b", "apart a none"):
            self.refused(desk, row, NoName, name="none")

    def test_the_first_from_the_left(self):
        desk = full_desk()
        for row in ("parted one 0 other 1", "run one other 5", "apart one other", "parted one 0 b 1", "run one a 5",
                    "apart one b", "keep new one", "keep other one"):
            self.refused(desk, row, NoName, name="one")
        self.refused(desk, "parted a 0 other 1", NoName, name="other")
        self.refused(desk, "run p other 1", NoName, name="other")
        self.refused(desk, "apart a other", NoName, name="other")

    def test_names_to_be_given_need_not_be_kept(self):
        desk = Desk()
        self.refused(desk, "keep a a", NoName, name="a")
        self.told(desk, f"web a {TWINS}", "kept")
        self.told(desk, "keep b a", "hand 0 0.0")
        self.told(desk, "program p end 1", "kept")

    def test_nothing_is_kept_behind_a_refusal(self):
        desk = Desk()
        self.refused(desk, "web a hand", NoText)
        self.refused(desk, "text a", NoName, name="a")
        self.refused(desk, "program a go 1", NoProgram)
        self.refused(desk, "text a", NoName, name="a")
        self.refused(desk, "web a hand 0 0.1", NoWeb)
        self.refused(desk, "text a", NoName, name="a")

    def test_ahead_of_the_other_sort_and_of_no_hand(self):
        desk = full_desk()
        self.refused(desk, "parted p 0 none 0", NoName, name="none")
        self.refused(desk, "parted none 0 p 0", NoName, name="none")
        self.refused(desk, "parted a 99 none 0", NoName, name="none")
        self.refused(desk, f"parted a {LONG[1]} none 0", NoName, name="none")
        self.refused(desk, f"parted none {LONG[1]} a {LONG[2]}", NoName, name="none")
        self.refused(desk, "run a none 5", NoName, name="none")
        self.refused(desk, "run none p 5", NoName, name="none")
        self.refused(desk, "apart big none", NoName, name="none")
        self.refused(desk, "apart none big", NoName, name="none")
        self.refused(desk, "apart p none", NoName, name="none")


class TextsRefused(Desks):
    def test_no_text(self):
        desk = full_desk()
        self.refused(desk, "web a hand", NoText, row=0)
        self.refused(desk, "web a hand 0 ; hand", NoText, row=1)
        self.refused(desk, "web a hand 0 ; hand 0 0", NoText, row=1)
        self.refused(desk, "web a end 1", NoText, row=0)
        self.refused(desk, "program a hand 0", NoText, row=0)
        self.refused(desk, "program p end 1 ; end", NoText, row=1)
        self.refused(desk, "program a end 1 ; end 2 ; set mark 1", NoText, row=2)
        self.refused(desk, "web program hand 0", NoRow)

    def test_rows_of_programs_that_are_none(self):
        desk = full_desk()
        for bad in NO_ROWS:
            if bad and "  " not in bad and bad[0] != " " and bad[-1] != " ":
                self.refused(desk, f"program p end 1 ; {bad}", NoText, row=1)
                self.refused(desk, f"program new {bad}", NoText, row=0)

    def test_no_web(self):
        desk = full_desk()
        self.refused(desk, "web a hand 10", NoWeb, word="mark", at=0)
        self.refused(desk, "web a hand 0 1.0 ; hand 0 0.1", NoWeb, word="tie", at=0)
        self.refused(desk, "web a hand 0 ; hand 0", NoWeb, word="apart", at=1)
        self.refused(desk, "web p hand 0 0.0 0.1 0.2 0.3 0.4", NoWeb, word="pegs", at=0)

    def test_no_program(self):
        desk = full_desk()
        self.refused(desk, "program a go 1", NoProgram, row=0)
        self.refused(desk, "program p end 1 ; go 0 ; test same 1 1 3", NoProgram, row=2)
        self.refused(desk, "program p go 9 ; go", NoText, row=1)

    def test_as_the_readers_refuse(self):
        desk = full_desk()
        chance = random.Random(39)
        for again in range(400):
            web = chance.random() < 0.5
            text = list(PAIR + " ; hand 0" if web else "set x (bundle 1 [2]) ; test same x 1 0 ; go 1")
            for change in range(chance.randint(1, 2)):
                text[chance.randrange(len(text))] = chance.choice(" ;01.axh)")
            text = "".join(text)
            if "" in text.split(" "):
                self.refused(desk, f"{'web' if web else 'program'} new {text}", NoRow)
                continue
            try:
                (read_web if web else read_program)(text.replace(" ; ", "\n"))
            except HallError as refusal:
                self.refused(desk, f"{'web' if web else 'program'} new {text}", type(refusal), **vars(refusal))


class OtherSorts(Desks):
    def test_programs_where_webs_are_due(self):
        desk = full_desk()
        for row in ("least p", "keep new p", "keep a p", "keep p p", "parted p 0 a 0", "parted a 0 p 0", "parted p 0 q 0",
                    "run p p 5", "run p q 5", "first p", "apart p a", "apart a p", "apart p q"):
            self.refused(desk, row, NoRow)

    def test_webs_where_programs_are_due(self):
        desk = full_desk()
        for row in ("run a a 5", "run a b 5", "run a p 5", "run big a 0"):
            self.refused(desk, row, NoRow)

    def test_no_hand(self):
        desk = full_desk()
        for figures in ("2", "3", "9", "10", "99", "100", "999", "1000") + LONG:
            self.refused(desk, f"parted a {figures} b 1", NoRow)
            self.refused(desk, f"parted a 0 b {figures}", NoRow)
        self.refused(desk, "parted big 8 a 0", NoRow)
        self.refused(desk, "parted a 0 big 8", NoRow)
        self.refused(desk, "parted a 7 big 0", NoRow)
        self.told(desk, "parted big 7 big 0", "alike")
        self.told(desk, "parted big 7 a 1", "at once")

    def test_apart_of_more_than_5_hands(self):
        desk = full_desk()
        for row in ("apart six a", "apart a six", "apart six six", "apart big a", "apart a big", "apart big big"):
            self.refused(desk, row, NoRow)
        self.told(desk, "web six " + one_row(show_web(ring(5))), "kept")
        self.told(desk, "apart six a", "program")
        self.told(desk, "apart six six", "bar")

    def test_first_of_more_than_6_hands(self):
        desk = full_desk()
        self.refused(desk, "first big", NoRow)
        self.told(desk, "first six", "led 1")
        self.told(desk, "web big " + one_row(show_web(ring(7))), "kept")
        self.refused(desk, "first big", NoRow)

    def test_webs_of_eight_hands_are_told_of(self):
        desk = full_desk()
        self.told(desk, "least big", "1" + " 0" * 8)
        self.told(desk, "keep new big", "hand 0 0.1 0.0")
        self.told(desk, "run p big 3", "over 1" + " 0" * 8)


if __name__ == "__main__":
    unittest.main()
