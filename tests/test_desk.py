import unittest

from runsums.answers import answer_of, least_c
from runsums.desk import Desk
from runsums.errors import (
    NoAnswer, NoBegin, NoHeld, NoNumber, NoProgram, NoRow, NoText, TooGreat, Unknown, Wrong)
from runsums.leading import sayings_of
from runsums.looking import far_off, first_wrong
from runsums.naming import names_of
from runsums.programs import Program
from runsums.progtexts import read_program, show_program
from runsums.reading import run_of
from runsums.runs import ran
from runsums.saytexts import show_saying
from tests.samples import MOVE as MOVE_ROWS
from tests.samples import double, fourteen, move, refusal, three_down, two_stops, up

MOVE = "boxes 2/if 0 4/lower 0/raise 1/go 0/stop"
DOWN = "boxes 1/lower 0/lower 0/lower 0/stop"
UP = "boxes 1/raise 0/go 0"
STOP = "boxes 1/stop"

# A word, the row behind it as it should be, for a desk that keeps m and has an answer.
GOOD_ROWS = ["keep a " + STOP, "show m", "run m 1 0", "sayings m", "saying m 3", "answer m 1 0", "more m 3 1 0",
             "number x0", "put x0 1", "look", "off", "back"]


def desk_of(*rows):
    desk = Desk()
    for row in rows:
        desk.say(row)
    return desk


def with_answer():
    """A desk that keeps three programs and has the answer of one of them."""
    return desk_of("keep m " + MOVE, "keep down " + DOWN, "keep up " + UP, "answer m 2 1")


def keeping(program):
    return desk_of("keep p " + text_of(program))


def text_of(program):
    return show_program(program).replace("\n", "/")


def all_told(desk):
    """What the desk tells of what it has, by rows that change nothing."""
    told = []
    for row in ["show m", "show down", "show up", "show a", "show n", "run m 3 1", "sayings up", "saying down 3",
                "look", "off", "back", *[f"number {name}" for name in names_of(move())]]:
        try:
            told.append(desk.say(row))
        except (Unknown, NoHeld, NoBegin, Wrong, TooGreat) as error:
            told.append(type(error))
    return told


class TestKeepAndShow(unittest.TestCase):
    def test_kept(self):
        desk = Desk()
        self.assertEqual(desk.say("keep m " + MOVE), "5 rows 2 boxes")
        self.assertEqual(desk.say("show m"), MOVE)
        self.assertEqual(desk.say("keep s boxes 1/stop"), "1 rows 1 boxes")
        self.assertEqual(desk.say("show s"), "boxes 1/stop")
        self.assertEqual(desk.say("show m"), MOVE)

    def test_line_feeds(self):
        desk = Desk()
        for text in [MOVE.replace("/", "\n"), MOVE.replace("/", "\n", 2), MOVE.replace("/r", "\nr")]:
            self.assertEqual(desk.say("keep m " + text), "5 rows 2 boxes")
            self.assertEqual(desk.say("show m"), MOVE)

    def test_programs(self):
        for program in (move(), three_down(), up(), double(), two_stops(), fourteen()):
            desk = Desk()
            self.assertEqual(desk.say("keep p " + text_of(program)), f"{len(program)} rows {program.boxes} boxes")
            self.assertEqual(desk.say("show p"), text_of(program))

    def test_kept_anew(self):
        desk = desk_of("keep m " + MOVE, "keep n " + UP)
        self.assertEqual(desk.say("keep m " + DOWN), "4 rows 1 boxes")
        self.assertEqual((desk.say("show m"), desk.say("show n")), (DOWN, UP))

    def test_names(self):
        desk = Desk()
        for name in ("a", "z9", "abcdefghij", "keep", "show", "boxes", "x0", "k0a"):
            self.assertEqual(desk.say(f"keep {name} {STOP}"), "1 rows 1 boxes")
        for name in ("a", "z9", "abcdefghij", "keep", "show", "boxes", "x0", "k0a"):
            self.assertEqual(desk.say(f"show {name}"), STOP)

    def test_no_text(self):
        desk = Desk()
        for text, at in [("", 0), (" ", 0), ("/", 0), ("stop", 0), ("boxes 1 /stop", 0), (" boxes 1/stop", 0),
                         ("boxes  1/stop", 0), ("boxes 1/", 1), ("boxes 1/stop/", 2), ("boxes 1//stop", 1),
                         ("boxes 1\n/stop", 1), ("boxes 1/stop\nhalt", 2), ("boxes 1\nstop/go", 2),
                         ("boxes 1/stop ", 1), ("boxes 1/raise  0/stop", 1), ("boxes 1/raise 00/stop", 1),
                         ("boxes 1/raise 5/halt", 2), ("boxes 1\\stop", 0)]:
            with self.subTest(text=text):
                self.assertEqual(refusal(NoText, desk.say, "keep m " + text).at, at)
        refusal(Unknown, desk.say, "show m")

    def test_no_program(self):
        desk = Desk()
        for text, told in [("boxes 0/stop", ("boxes", -1)), ("boxes 6/stop", ("boxes", -1)), ("boxes 1", ("rows", -1)),
                           ("boxes 1" + "/stop" * 15, ("rows", -1)), ("boxes 1/stop/raise 1/stop", ("box", 1)),
                           ("boxes 1/go 1", ("goal", 0)), ("boxes 1/stop/raise 0", ("end", 1))]:
            error = refusal(NoProgram, desk.say, "keep m " + text)
            self.assertEqual((error.word, error.at), told)
        refusal(Unknown, desk.say, "show m")

    def test_what_is_refused_leaves_what_was_kept(self):
        desk = desk_of("keep m " + MOVE)
        refusal(NoText, desk.say, "keep m boxes")
        refusal(NoProgram, desk.say, "keep m boxes 1/raise 0")
        refusal(NoRow, desk.say, "keep m")
        self.assertEqual(desk.say("show m"), MOVE)

    def test_long_texts(self):
        self.assertEqual(refusal(NoText, Desk().say, "keep m boxes 1" + "/stop" * 1100 + "/").at, 1101)
        self.assertEqual(refusal(NoText, Desk().say, "keep m " + " " * 5900).at, 0)


class TestRun(unittest.TestCase):
    def test_words(self):
        desk = with_answer()
        self.assertEqual(desk.say("run m 2 0"), "stopped in 9 with 0 2")
        self.assertEqual(desk.say("run m 0 7"), "stopped in 1 with 0 7")
        self.assertEqual(desk.say("run down 5"), "stopped in 3 with 2")
        self.assertEqual(desk.say("run down 2"), "stuck in 2")
        self.assertEqual(desk.say("run down 0"), "stuck in 0")
        self.assertEqual(desk.say("run up 0"), "going in 200")
        desk.say("keep s boxes 5/stop")
        self.assertEqual(desk.say("run s 500 0 10 99 100"), "stopped in 0 with 500 0 10 99 100")

    def test_200_steps(self):
        desk = with_answer()
        self.assertEqual(desk.say("run m 49 0"), "stopped in 197 with 0 49")
        self.assertEqual(desk.say("run m 50 0"), "going in 200")
        self.assertEqual(desk.say("run m 500 500"), "going in 200")

    def test_runs(self):
        for program, begin in [(double(), (2, 1, 0, 3)), (two_stops(), (4, 0)), (fourteen(), (0, 4, 1, 0, 9))]:
            word, stands = ran(program, begin)
            row = "run p " + " ".join(str(held) for held in begin)
            self.assertEqual(keeping(program).say(row), f"stopped in {len(stands) - 1} with "
                             + " ".join(str(held) for held in stands[-1][1]))

    def test_no_begin(self):
        desk = with_answer()
        for row, many in [("run m 1", 2), ("run m 1 2 3", 2), ("run up 0 0", 1), ("run down 1 1 1 1 1 1 1", 1)]:
            self.assertEqual(refusal(NoBegin, desk.say, row).many, many)


class TestSayings(unittest.TestCase):
    def test_how_many(self):
        for program in (move(), three_down(), up(), double(), two_stops(), fourteen()):
            self.assertEqual(keeping(program).say("sayings p"), str(len(sayings_of(program))))

    def test_each(self):
        for program in (move(), up(), fourteen()):
            desk = keeping(program)
            for k, saying in enumerate(sayings_of(program)):
                self.assertEqual(desk.say(f"saying p {k}"), show_saying(saying))

    def test_by_hand(self):
        desk = with_answer()
        self.assertEqual(desk.say("sayings m"), "24")
        self.assertEqual(desk.say("saying m 0"), "h = (((x0 + x1) + 1) + d)")
        self.assertEqual(desk.say("saying m 6"), "r0 under m")
        self.assertEqual(desk.say("saying m 23"),
                         "((q * (r1 + l2)) + x1) = ((r1 + (q * 0)) + ((2 ^ (c * (s + 1))) * y1))")

    def test_one_that_there_is_not(self):
        desk = with_answer()
        for k in (24, 25, 99, 100, 999):
            refusal(NoRow, desk.say, f"saying m {k}")


class TestAnswer(unittest.TestCase):
    def has(self, desk, answer):
        self.assertEqual({name: desk.say(f"number {name}") for name in answer},
                         {name: str(number) for name, number in answer.items()})

    def test_answer(self):
        desk = with_answer()
        self.assertEqual(desk.say("answer m 3 1"), "13 steps")
        self.has(desk, answer_of(move(), (3, 1)))
        self.assertEqual(desk.say("answer m 0 0"), "1 steps")
        self.has(desk, answer_of(move(), (0, 0)))
        desk.say("keep s " + STOP)
        self.assertEqual(desk.say("answer s 500"), "0 steps")
        self.has(desk, answer_of(read_program(STOP.replace("/", "\n")), (500,)))

    def test_more(self):
        desk = with_answer()
        for more in range(9):
            self.assertEqual(desk.say(f"more m {more} 3 1"), "13 steps")
            answer = answer_of(move(), (3, 1), more)
            self.assertEqual(answer["c"], least_c(move(), (3, 1)) + more)
            self.has(desk, answer)
            self.assertEqual((desk.say("look"), desk.say("off")), ("holds", "0"))

    def test_the_greatest(self):
        program = Program(5, MOVE_ROWS)
        desk = keeping(program)
        self.assertEqual(desk.say("more p 8 49 500 500 500 500"), "197 steps")
        answer = answer_of(program, (49, 500, 500, 500, 500), 8)
        self.assertGreater(answer["m"], 10 ** 1000)
        self.has(desk, answer)
        self.assertEqual((desk.say("look"), desk.say("off")), ("holds", "0"))
        self.assertEqual(desk.say("back").split(" ")[-1], "4:0,549,500,500,500")

    def test_no_answer(self):
        desk = with_answer()
        for words in ("answer", "more"):
            behind = " 0" if words == "more" else ""
            self.assertEqual(refusal(NoAnswer, desk.say, f"{words} up{behind} 0").word, "going")
            self.assertEqual(refusal(NoAnswer, desk.say, f"{words} down{behind} 2").word, "stuck")
            self.assertEqual(refusal(NoAnswer, desk.say, f"{words} m{behind} 50 0").word, "going")
            self.assertEqual(refusal(NoBegin, desk.say, f"{words} m{behind} 2").many, 2)
            self.assertEqual(refusal(NoBegin, desk.say, f"{words} up{behind} 2 2").many, 1)
        self.has(desk, answer_of(move(), (2, 1)))

    def test_its_program_stays(self):
        desk = with_answer()
        told = [desk.say(row) for row in ("look", "off", "back", "number l4")]
        desk.say("keep m " + UP)
        self.assertEqual([desk.say(row) for row in ("look", "off", "back", "number l4")], told)
        self.assertEqual(desk.say("show m"), UP)
        desk.say("put y0 3")
        at = first_wrong(sayings_of(move()), {**answer_of(move(), (2, 1)), "y0": 3})
        self.assertEqual(desk.say("look"), f"fails {at}")
        self.assertEqual(refusal(Wrong, desk.say, "back").at, at)
        refusal(NoAnswer, desk.say, "answer m 0")
        self.assertEqual(desk.say("look"), f"fails {at}")

    def test_an_answer_anew(self):
        desk = with_answer()
        desk.say("put x0 7")
        self.assertEqual(desk.say("answer m 2 1"), "9 steps")
        self.has(desk, answer_of(move(), (2, 1)))
        self.assertEqual(desk.say("answer down 3"), "3 steps")
        self.has(desk, answer_of(three_down(), (3,)))
        self.assertEqual(refusal(NoNumber, desk.say, "number x1").name, "x1")


class TestNumberAndPut(unittest.TestCase):
    def test_put(self):
        desk = with_answer()
        for number in ("0", "1", "9", "10", "500", "501", "999", "1000", "1" * 399, "9" * 400, "1" + "0" * 399):
            self.assertEqual(desk.say("put r0 " + number), "ok")
            self.assertEqual(desk.say("number r0"), number)
        self.assertEqual(desk.say("number r1"), str(answer_of(move(), (2, 1))["r1"]))

    def test_put_again(self):
        desk = with_answer()
        answer = answer_of(move(), (2, 1))
        for name in answer:
            if answer[name] < 10 ** 400:
                self.assertEqual(desk.say(f"put {name} {answer[name] + 1}"), "ok")
                self.assertTrue(desk.say("look").startswith("fails "))
                self.assertEqual(desk.say(f"put {name} {answer[name]}"), "ok")
                self.assertEqual(desk.say("look"), "holds")

    def test_no_number(self):
        desk = with_answer()
        for name in ("z", "x2", "l5", "e1", "k0a", "abcdefghij", "m0"):
            self.assertEqual(refusal(NoNumber, desk.say, "number " + name).name, name)
            self.assertEqual(refusal(NoNumber, desk.say, f"put {name} 1").name, name)
            self.assertEqual(refusal(NoNumber, desk.say, "number " + name).name, name)

    def test_401_figures(self):
        desk = with_answer()
        for number in ("1" * 401, "0" + "1" * 400, "1" + "0" * 400, "9" * 5000):
            refusal(NoRow, desk.say, "put x0 " + number)
        self.assertEqual(desk.say("number x0"), "2")


class TestLookOffBack(unittest.TestCase):
    def test_back(self):
        desk = desk_of("keep m " + MOVE, "answer m 1 0")
        self.assertEqual(desk.say("back"), "0:1,0 1:1,0 2:0,0 3:0,1 0:0,1 4:0,1")
        desk = desk_of("keep s " + STOP, "answer s 500")
        self.assertEqual(desk.say("back"), "0:500")

    def test_stands(self):
        for program, begin in [(double(), (2, 1, 0, 3)), (two_stops(), (4, 0)), (fourteen(), (0, 4, 1, 0, 9))]:
            desk = keeping(program)
            desk.say("answer p " + " ".join(str(held) for held in begin))
            told = []
            for stand in desk.say("back").split(" "):
                row, contents = stand.split(":")
                told.append((int(row), tuple(int(held) for held in contents.split(","))))
            self.assertEqual(told, ran(program, begin)[1])

    def test_otherwise(self):
        """Each number otherwise: look, off and back as the functions tell of the same answer."""
        program = move()
        sayings = sayings_of(program)
        for name, number in answer_of(program, (2, 1)).items():
            for other in (number + 1, number * 2 + 3, 0):
                answer = {**answer_of(program, (2, 1)), name: other}
                if other == number or other >= 10 ** 400:
                    continue
                desk = with_answer()
                desk.say(f"put {name} {other}")
                with self.subTest(name=name, other=other):
                    at = first_wrong(sayings, answer)
                    self.assertEqual(desk.say("look"), f"fails {at}")
                    self.assertEqual(desk.say("off"), str(far_off(sayings, answer).bit_length()))
                    self.assertEqual(refusal(Wrong, desk.say, "back").at, at)
                    self.assertEqual(refusal(Wrong, run_of, program, answer).at, at)

    def test_off_by_hand(self):
        desk = desk_of("keep s " + STOP, "answer s 0")
        self.assertEqual(desk.say("off"), "0")
        # d 1 instead of 0: the first saying is off by 1 and no other speaks of d.
        for d, bits in [(1, 1), (2, 3), (3, 4), (4, 5), (16, 9)]:
            desk.say(f"put d {d}")
            self.assertEqual(desk.say("off"), str(bits))
            self.assertEqual(desk.say("look"), "fails 0")
        desk.say("put d 0")
        self.assertEqual((desk.say("off"), desk.say("look"), desk.say("back")), ("0", "holds", "0:0"))

    def test_too_great(self):
        desk = with_answer()
        for c in ("1000000", "9" * 400):
            desk.say("put c " + c)
            for row in ("look", "off", "back"):
                self.assertEqual(refusal(TooGreat, desk.say, row).most, 1000000)
            self.assertEqual(desk.say("number c"), c)

    def test_wrong_goes_ahead_of_too_great(self):
        desk = with_answer()
        desk.say("put s 1000000")
        desk.say("put d 1")
        self.assertEqual(desk.say("look"), "fails 0")
        self.assertEqual(refusal(Wrong, desk.say, "back").at, 0)
        self.assertEqual(refusal(TooGreat, desk.say, "off").most, 1000000)

    def test_looks_change_nothing(self):
        desk = with_answer()
        told = all_told(desk)
        self.assertEqual(all_told(desk), told)


class TestNoRow(unittest.TestCase):
    def no_row(self, row):
        """Refused whether the desk keeps anything or not, and nothing is changed by it."""
        with self.subTest(row=row):
            refusal(NoRow, Desk().say, row)
            desk = with_answer()
            told = all_told(desk)
            refusal(NoRow, desk.say, row)
            self.assertEqual(all_told(desk), told)

    def test_no_such_word(self):
        for row in ["", " ", "  ", "\n", "/", "m", "kept m " + STOP, "Show m", "SHOW m", "shows m", "sho m", "help",
                    "run-m 1 0", "looks", "look\n", "\nlook", "off.", "stop", "0", "show\nm", "keep\nm " + STOP, "name",
                    "contents m"]:
            self.no_row(row)

    def test_too_few_words(self):
        for row in ["keep", "keep m", "show", "run", "run m", "sayings", "saying", "saying m", "answer", "answer m",
                    "more", "more m", "more m 3", "number", "put", "put x0"]:
            self.no_row(row)

    def test_too_many_words(self):
        for row in ["show m m", "sayings m 1", "saying m 3 3", "number x0 1", "number x0 x1", "put x0 1 1", "look m",
                    "off 0", "back m", "look look"]:
            self.no_row(row)

    def test_blanks(self):
        for row in GOOD_ROWS:
            self.no_row(" " + row)
            if not row.startswith("keep"):
                self.no_row(row + " ")
                self.no_row(row + "  ")
            for at in [at for at, sign in enumerate(row) if sign == " "]:
                if not row.startswith("keep") or row[:at] == "keep":
                    self.no_row(row[:at] + " " + row[at:])
        for row in ["keep ", "keep  ", "keep  " + STOP, "keep   m", "show ", "run ", "run m ", "more m 3 ", "put x0 ",
                    "look ", "answer m  1 0"]:
            self.no_row(row)

    def test_blanks_in_a_text(self):
        """Within the text blanks are no matter of rows, but of texts."""
        for row in ["keep m ", "keep m  ", "keep m  boxes 1/stop", "keep m boxes 1/stop ", "keep m boxes  1/stop"]:
            refusal(NoText, Desk().say, row)

    def test_names(self):
        for name in ["M", "0", "1m", "m_", "m-", "m.", "abcdefghijk", "m\n", "\nm", "m/", "-", "\u00e4", "m\u0661", "mM"]:
            for row in ["keep {} " + STOP, "show {}", "run {} 1 0", "sayings {}", "saying {} 3", "answer {} 1 0",
                        "more {} 3 1 0", "number {}", "put {} 1"]:
                self.no_row(row.format(name))

    def test_numbers(self):
        wrong = ["00", "01", "007", "1000", "0001", "0500", "-1", "+1", "-0", "1.", "1_0", "0x1", "a", "1a", "a1", "1\n",
                 "\n1", "\u0661", "\u00b2", "\uff11", "1,0", "1/0", "1e1", "n", "M"]
        for number in wrong:
            for row in ["run m {} 0", "run m 0 {}", "answer m {} 0", "answer m 0 {}", "more m {} 1 0", "more m 3 {} 0",
                        "more m 3 0 {}", "saying m {}"]:
                self.no_row(row.format(number))
            if number != "1000":
                self.no_row(f"put x0 {number}")

    def test_contents_above_500(self):
        for held in (501, 502, 600, 999):
            for row in ["run m {} 0", "run m 0 {}", "answer m {} 0", "answer m 0 {}", "more m 3 {} 0", "more m 3 0 {}"]:
                self.no_row(row.format(held))
        desk = with_answer()
        self.assertEqual(desk.say("run m 0 500"), "stopped in 1 with 0 500")
        self.assertEqual(desk.say("answer m 0 500"), "1 steps")
        self.assertEqual(desk.say("more m 8 0 500"), "1 steps")

    def test_more_above_8(self):
        for more in (9, 10, 99, 100, 999):
            self.no_row(f"more m {more} 1 0")
        self.assertEqual(with_answer().say("more m 8 1 0"), "5 steps")

    def test_a_number_that_says_nothing(self):
        self.no_row("saying m 1000")
        desk = with_answer()
        told = all_told(desk)
        for k in (24, 999):
            refusal(NoRow, desk.say, f"saying m {k}")
        self.assertEqual(all_told(desk), told)


class TestTheOrder(unittest.TestCase):
    def test_no_row_ahead_of_unknown(self):
        desk = with_answer()
        for row in ["show ghost 1", "run ghost", "run ghost 501", "run ghost 1 2 01", "sayings ghost ", "saying ghost",
                    "saying ghost 1000", "saying ghost 01", "answer ghost 501", "more ghost 9 1", "more ghost 8",
                    "more ghost 8 501"]:
            refusal(NoRow, desk.say, row)

    def test_unknown_ahead_of_what_functions_refuse(self):
        desk = with_answer()
        for row in ["show ghost", "run ghost 1", "run ghost 1 2 3 4 5 6 7", "sayings ghost", "saying ghost 0",
                    "saying ghost 999", "answer ghost 1", "answer ghost 0 0 0 0 0 0", "more ghost 0 1", "more ghost 8 500"]:
            self.assertEqual(refusal(Unknown, desk.say, row).name, "ghost")
            self.assertEqual(refusal(Unknown, Desk().say, row).name, "ghost")

    def test_no_row_ahead_of_no_held(self):
        for row in ["number", "number 9", "number X", "number x0 1", "put x0", "put x0 01", "put x0 " + "1" * 401,
                    "put X 1", "look 1", "off ", "back back"]:
            refusal(NoRow, Desk().say, row)
            refusal(NoRow, desk_of("keep m " + MOVE).say, row)

    def test_no_held(self):
        for desk in (Desk(), desk_of("keep m " + MOVE)):
            for row in ["number x0", "number zz", "put x0 1", "put zz 1", "look", "off", "back"]:
                refusal(NoHeld, desk.say, row)

    def test_no_held_where_answers_were_refused(self):
        desk = desk_of("keep up " + UP, "keep down " + DOWN)
        for kind, row in [(NoAnswer, "answer up 0"), (NoBegin, "answer up 0 0"), (NoRow, "answer down 501"),
                          (Unknown, "answer m 0"), (NoAnswer, "more down 8 2")]:
            refusal(kind, desk.say, row)
            refusal(NoHeld, desk.say, "look")
        desk.say("run down 3")
        refusal(NoHeld, desk.say, "number x0")
        desk.say("answer down 3")
        self.assertEqual(desk.say("look"), "holds")

    def test_no_row_ahead_of_no_number(self):
        desk = with_answer()
        for row in ["number zz 1", "put zz", "put zz 01", "put zz " + "9" * 401]:
            refusal(NoRow, desk.say, row)

    def test_no_row_ahead_of_texts(self):
        for row in ["keep M ", "keep 0 boxes", "keep m", "keep abcdefghijk boxes 0/stop"]:
            refusal(NoRow, Desk().say, row)

    def test_no_text_ahead_of_no_program(self):
        self.assertEqual(refusal(NoText, Desk().say, "keep m boxes 0/halt").at, 1)

    def test_no_begin_ahead_of_no_answer(self):
        desk = with_answer()
        self.assertEqual(refusal(NoBegin, desk.say, "answer up 1 1").many, 1)
        self.assertEqual(refusal(NoBegin, desk.say, "more down 0 1 1").many, 1)


class TestWhatIsRefused(unittest.TestCase):
    def test_nothing_is_changed(self):
        refused = [
            (NoText, "keep m boxes"), (NoText, "keep a boxes 1/"), (NoProgram, "keep m boxes 9/stop"),
            (NoProgram, "keep a boxes 1"), (Unknown, "show ghost"), (NoBegin, "run m 1"), (NoBegin, "answer m 1"),
            (NoAnswer, "answer up 1"), (NoAnswer, "more down 3 1"), (NoBegin, "more m 3 1 1 1"), (NoRow, "saying m 24"),
            (NoNumber, "number zz"), (NoNumber, "put zz 1"), (NoRow, "put x0 01"), (NoRow, "more m 9 1 1"),
            (NoRow, "answer m 501 1"), (Unknown, "answer ghost 1")]
        for prepare in ([], ["put y0 5"], ["put c 1000000"], ["keep m " + UP]):
            desk = with_answer()
            for row in prepare:
                desk.say(row)
            told = all_told(desk)
            for kind, row in refused:
                # Where m is kept anew, it has other boxes and sayings.
                if prepare and prepare[0].startswith("keep") and kind in (NoBegin, NoRow):
                    continue
                refusal(kind, desk.say, row)
                self.assertEqual(all_told(desk), told)

    def test_wrong_and_too_great(self):
        desk = with_answer()
        desk.say("put y0 5")
        told = all_told(desk)
        refusal(Wrong, desk.say, "back")
        self.assertEqual(all_told(desk), told)
        desk.say("put c 1000000")
        told = all_told(desk)
        for row in ("look", "off", "back"):
            refusal(TooGreat, desk.say, row)
            self.assertEqual(all_told(desk), told)


class TestDesks(unittest.TestCase):
    def test_two_know_nothing_of_each_other(self):
        one, other = Desk(), Desk()
        one.say("keep m " + MOVE)
        self.assertEqual(refusal(Unknown, other.say, "show m").name, "m")
        one.say("answer m 1 0")
        refusal(NoHeld, other.say, "look")
        other.say("keep m " + DOWN)
        self.assertEqual((one.say("show m"), other.say("show m")), (MOVE, DOWN))
        other.say("answer m 3")
        other.say("put x0 9")
        self.assertEqual((one.say("number x0"), other.say("number x0")), ("1", "9"))
        self.assertEqual((one.say("look"), other.say("look")), ("holds", "fails 0"))

    def test_of_the_same_program(self):
        one, other = [desk_of("keep m " + MOVE, "answer m 2 1") for _ in range(2)]
        one.say("put s 3")
        self.assertEqual((one.say("number s"), other.say("number s")), ("3", "9"))

    def test_all_rows(self):
        desk = with_answer()
        self.assertEqual([desk.say(row) for row in GOOD_ROWS], [
            "1 rows 1 boxes", MOVE, "stopped in 5 with 0 1", "24", "q = (6 + g)", "5 steps", "5 steps", "1", "ok", "holds",
            "0", "0:1,0 1:1,0 2:0,0 3:0,1 0:0,1 4:0,1"])
        for row in GOOD_ROWS:
            self.assertIs(type(desk.say(row)), str)

    def test_by_name(self):
        desk = Desk()
        self.assertEqual(desk.say(row="keep m " + MOVE), "5 rows 2 boxes")


if __name__ == "__main__":
    unittest.main()
