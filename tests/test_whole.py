"""What the document promises over the whole program (1, 2 and 3)."""
import random
import unittest

from runsums.answers import answer_of, least_c
from runsums.bits import bits_of, fits, how_many, of_bits, stands_out
from runsums.choosing import carries, choose, halvings, is_odd
from runsums.desk import Desk
from runsums.errors import NoAnswer, TooGreat, Wrong
from runsums.figures import figure, figures, of_figures, ones
from runsums.leading import sayings_of
from runsums.lifting import lifted
from runsums.looking import far_off, first_wrong, holds, off
from runsums.lowering import lowered, lowered_answer
from runsums.naming import asked_boxes, names_of
from runsums.one import either, made_one
from runsums.powers import figure_of_power
from runsums.programs import Program, goal_of, moves_of
from runsums.progtexts import read_program, show_program
from runsums.reading import run_of
from runsums.renaming import renamed
from runsums.runs import ran, step_from
from runsums.sayings import Saying, names_in, names_in_all
from runsums.saytexts import read_saying, show_saying, term_text
from runsums.terms import deep, is_name, parts, sum_of, worth
from tests.making import name, num, plus, power, times
from tests.samples import MOVE, by_chance, double, move, refusal, two_stops

TERM = plus(name("a"), times(num(3), power(name("b"), num(2))))
EQUAL = Saying("same", name("a"), times(num(2), name("c")))
OTHER = Saying("same", plus(name("c"), num(1)), name("b"))
UNDER = Saying("under", name("a"), name("b"))

# Of these numbers UNDER holds, and so does EQUAL.
ANSWER = {"z": 9, "b": 6, "a": 4, "c": 2}
STOP = Program(1, [("stop",)])

# Every function and class of the interface with arguments for it, in the order of the interface.
CALLS = [
    (Program, {"boxes": 2, "rows": MOVE}),
    (goal_of, {"program": move(), "k": 3}),
    (moves_of, {"program": double(), "j": 2, "word": "raise"}),
    (show_program, {"program": move()}),
    (read_program, {"text": show_program(double())}),
    (ran, {"program": move(), "begin": [3, 1], "most": 7}),
    (step_from, {"program": move(), "stand": (1, (3, 1))}),
    (figure, {"number": 1234, "base": 7, "k": 2}),
    (figures, {"number": 1234, "base": 7, "many": 9}),
    (of_figures, {"some": [4, 3, 9, 10 ** 300], "base": 7}),
    (ones, {"base": 7, "many": 3}),
    (bits_of, {"number": 10}),
    (of_bits, {"text": "0101"}),
    (fits, {"one": 2, "other": 3}),
    (stands_out, {"one": 6, "other": 3}),
    (how_many, {"number": 7}),
    (is_name, {"text": "x0"}),
    (sum_of, {"terms": [name("a"), num(3), TERM]}),
    (parts, {"term": TERM}),
    (deep, {"term": TERM}),
    (worth, {"term": TERM, "answer": ANSWER}),
    (Saying, {"word": "under", "left": TERM, "right": num(2)}),
    (names_in, {"saying": EQUAL}),
    (names_in_all, {"sayings": [UNDER, EQUAL]}),
    (term_text, {"term": TERM}),
    (show_saying, {"saying": UNDER}),
    (read_saying, {"text": "(a + 1) under b"}),
    (names_of, {"program": move()}),
    (asked_boxes, {"program": double()}),
    (sayings_of, {"program": two_stops()}),
    (least_c, {"program": move(), "begin": [3, 1], "most": 50}),
    (answer_of, {"program": move(), "begin": [3, 1], "more": 2, "most": 50}),
    (holds, {"saying": UNDER, "answer": ANSWER}),
    (first_wrong, {"sayings": [UNDER, EQUAL, OTHER], "answer": ANSWER}),
    (off, {"saying": OTHER, "answer": ANSWER}),
    (far_off, {"sayings": [UNDER, OTHER], "answer": ANSWER}),
    (run_of, {"program": move(), "answer": answer_of(move(), [1, 2])}),
    (choose, {"n": 6, "k": 2}),
    (halvings, {"number": 40}),
    (carries, {"one": 7, "other": 2}),
    (is_odd, {"n": 6, "k": 2}),
    (figure_of_power, {"n": 6, "k": 2}),
    (lowered, {"sayings": [EQUAL, UNDER]}),
    (lowered_answer, {"sayings": [EQUAL, UNDER], "answer": ANSWER}),
    (lifted, {"sayings": [EQUAL], "answer": ANSWER}),
    (renamed, {"saying": UNDER, "names": {"a": "b", "b": "a"}}),
    (made_one, {"sayings": [EQUAL, OTHER]}),
    (either, {"one": EQUAL, "other": OTHER}),
]


def plain(thing):
    """The thing as it can be held against another one: with the order of dicts and the fields of objects."""
    if isinstance(thing, dict):
        return "dict", [(key, plain(value)) for key, value in thing.items()]
    if isinstance(thing, (list, tuple)):
        return type(thing).__name__, [plain(one) for one in thing]
    if isinstance(thing, (Program, Saying)):
        return type(thing).__name__, [(key, plain(value)) for key, value in vars(thing).items()]
    return type(thing).__name__, thing


def copied(thing):
    """A list or dict anew, with the same things."""
    if isinstance(thing, list):
        return list(thing)
    return dict(thing) if isinstance(thing, dict) else thing


def spoiled(thing):
    """Changes what the asker may change: every list and dict that was told."""
    if isinstance(thing, dict):
        for key in thing:
            thing[key] = "spoiled"
        thing["more"] = 1
    elif isinstance(thing, list):
        thing.append("spoiled")
        thing[0] = "spoiled"
    elif isinstance(thing, tuple):
        for one in thing:
            spoiled(one)


class TestCalls(unittest.TestCase):
    """Promise 2."""

    def test_by_names_in_another_order(self):
        for call, told in CALLS:
            with self.subTest(call=call.__name__):
                expected = plain(call(*told.values()))
                self.assertEqual(plain(call(**told)), expected)
                self.assertEqual(plain(call(**{key: told[key] for key in reversed(told)})), expected)
                first = list(told)[0]
                rest = {key: told[key] for key in reversed(told) if key != first}
                self.assertEqual(plain(call(told[first], **rest)), expected)
        desk = Desk()
        self.assertEqual(desk.say(row="keep p boxes 1/stop"), "1 rows 1 boxes")

    def test_all_of_the_interface_is_called(self):
        self.assertEqual(len({call for call, _ in CALLS}), len(CALLS))
        self.assertEqual(len(CALLS), 48)

    def test_what_is_handed_in_stays(self):
        for call, told in CALLS:
            with self.subTest(call=call.__name__):
                before = plain(told)
                call(**told)
                self.assertEqual(plain(told), before)

    def test_what_is_told_is_the_askers_own(self):
        for call, told in CALLS:
            with self.subTest(call=call.__name__):
                before = plain(told)
                first = call(**told)
                expected = plain(first)
                spoiled(first)
                self.assertEqual(plain(told), before)
                self.assertEqual(plain(call(**told)), expected)

    def test_what_is_told_stays_behind_the_call(self):
        """Lists and dicts that were handed in and are changed behind the call change nothing that was told."""
        for call, told in CALLS:
            with self.subTest(call=call.__name__):
                own = {key: copied(value) for key, value in told.items()}
                first = call(**own)
                expected = plain(first)
                for key, value in own.items():
                    if isinstance(value, (list, dict)):
                        value.clear()
                self.assertEqual(plain(first), expected)
                self.assertEqual(plain(call(**told)), expected)

    def test_lists_as_tuples(self):
        tried = 0
        for call, told in CALLS:
            as_tuples = {key: tuple(value) if isinstance(value, list) else value for key, value in told.items()}
            if plain(as_tuples) != plain(told):
                tried += 1
                with self.subTest(call=call.__name__):
                    self.assertEqual(plain(call(**as_tuples)), plain(call(**told)))
        self.assertEqual(tried, 13)

    def test_nothing_hangs_on_what_was_asked_ahead(self):
        chance = random.Random(2)
        expected = [plain(call(**told)) for call, told in CALLS]
        for _ in range(5):
            order = list(range(len(CALLS)))
            chance.shuffle(order)
            for at in order:
                call, told = CALLS[at]
                self.assertEqual(plain(call(**told)), expected[at])

    def test_a_list_that_is_changed_between_two_calls(self):
        sayings, answer = [EQUAL, UNDER], dict(ANSWER)
        self.assertIsNone(first_wrong(sayings, answer))
        self.assertEqual((far_off(sayings, answer), len(lowered(sayings))), (0, 5))
        sayings.insert(0, OTHER)
        self.assertEqual(first_wrong(sayings, answer), 0)
        self.assertEqual((far_off(sayings, answer), len(lowered(sayings))), (9, 6))
        answer["c"], answer["a"] = 5, 10
        self.assertEqual(first_wrong(sayings, answer), 2)
        del sayings[2]
        self.assertIsNone(first_wrong(sayings, answer))
        self.assertEqual(list(lifted(sayings, answer)), ["b", "a", "c"])
        self.assertEqual(plain(lowered(sayings)), plain(sayings))
        rows = list(MOVE)
        program = Program(2, rows)
        rows[1] = ("raise", 0)
        self.assertEqual(program, move())
        self.assertNotEqual(Program(2, rows), program)
        begin = [1, 0]
        told = ran(program, begin)
        begin[0] = 0
        self.assertEqual((told[1][0], len(ran(program, begin)[1])), ((0, (1, 0)), 2))

    def test_sayings_shared_by_several_lists(self):
        one, other = [EQUAL, UNDER], [UNDER, OTHER, UNDER]
        for _ in range(2):
            self.assertEqual(plain(lowered(one)[0]), plain(EQUAL))
            self.assertEqual(names_in_all(lowered(one)), ["a", "b", "c", *[f"k1{letter}" for letter in "abcdef"]])
            self.assertEqual(names_in_all(lowered(other)), [
                "a", "b", "c", *[f"k{t}{letter}" for t in (0, 2) for letter in "abcdef"]])
            self.assertEqual(first_wrong(one, ANSWER), None)
            self.assertEqual(first_wrong(other, ANSWER), 1)
            self.assertEqual(plain(renamed(UNDER, {"a": "z"})), plain(Saying("under", name("z"), name("b"))))
            self.assertEqual(plain(one + other), plain([EQUAL, UNDER, UNDER, OTHER, UNDER]))

    def test_an_answer_that_is_told_is_handed_on(self):
        """What a function told is handed on whatever its size."""
        great = answer_of(move(), [900, 5], 8, 4000)
        self.assertGreater(great["m"], 10 ** 20000)
        self.assertEqual(figure(great["r0"], great["q"], 0), 900)
        self.assertEqual(figures(great["r1"], great["q"], great["s"] + 1)[-1], 905)
        self.assertEqual(how_many(great["i"]), great["s"] + 1)
        self.assertEqual(of_bits(bits_of(great["m"])), great["m"])
        self.assertEqual(halvings(great["l4"]), great["c"] * great["s"])
        self.assertEqual(carries(great["i"], great["i"]), great["s"] + 1)
        self.assertTrue(fits(great["l0"], great["i"]) and is_odd(great["i"], great["l0"]))
        self.assertEqual(plain(lifted(sayings_of(move()), great)), plain(great))


# Small programs with the contents at the begin and how much more than the least c: of these
# runs no right side of an under comes to more than 600.
SMALL = [
    (STOP, [0], 0), (STOP, [2], 3), (STOP, [500], 0), (Program(5, [("stop",)]), [1, 0, 2, 0, 1], 4),
    (Program(1, [("raise", 0), ("stop",)]), [0], 1),
    (Program(1, [("if", 0, 2), ("lower", 0), ("stop",)]), [0], 1),
    (Program(1, [("if", 0, 2), ("lower", 0), ("stop",)]), [1], 0),
    (Program(2, [("lower", 1), ("go", 2), ("stop",)]), [0, 1], 0),
    (Program(1, [("if", 0, 1), ("if", 0, 3), ("stop",), ("stop",)]), [0], 0),
]


class TestLedAllTheWay(unittest.TestCase):
    """Promise 3, with the text of a program at one end and its run at both."""

    def test_text_program_sayings_answer_and_back(self):
        for small, begin, more in SMALL:
            with self.subTest(rows=small.rows, begin=begin):
                program = read_program(show_program(small))
                self.assertEqual(program, small)
                sayings = [read_saying(show_saying(saying)) for saying in sayings_of(program)]
                self.assertEqual(sayings, sayings_of(small))
                answer = answer_of(program, begin, more)
                self.assertIsNone(first_wrong(sayings, answer))
                led, down = lowered(sayings), lowered_answer(sayings, answer)
                self.assertEqual([read_saying(show_saying(saying)) for saying in led], led)
                self.assertIsNone(first_wrong(led, down))
                self.assertIs(holds(made_one(led), down), True)
                self.assertEqual(run_of(program, down), ran(program, begin)[1])
                self.assertEqual(plain(lifted(led, down)), plain(down))
                self.assertEqual(plain(lifted(sayings, down)), plain(answer))
                self.assertEqual(run_of(program, lifted(sayings, down)), ran(program, begin)[1])

    def test_one_number_otherwise(self):
        """By one, or by a bit: the sayings led down and the one made of them tell it, and how far off they are."""
        chance = random.Random(3)
        for program, begin, more in SMALL[4:8]:
            led = lowered(sayings_of(program))
            down = lowered_answer(sayings_of(program), answer_of(program, begin, more))
            one = made_one(led)
            for text in down:
                bit = 0 if text in ("s", "c") else chance.randrange(down[text].bit_length() + 1)
                for number in (down[text] + 1, down[text] ^ (1 << bit)):
                    other = {**down, text: number}
                    with self.subTest(rows=program.rows, text=text):
                        self.assertIsNotNone(first_wrong(led, other))
                        try:
                            excess = worth(one.left, other) - worth(one.right, other)
                        except TooGreat:
                            # What is too great to be reckoned is no answer either.
                            continue
                        self.assertGreater(excess, 0)
                        self.assertEqual(excess, far_off(led, other))

    def test_led_down_only_where_the_sayings_hold(self):
        for program, begin, more in SMALL:
            sayings, answer = sayings_of(program), answer_of(program, begin, more)
            for text in answer:
                other = {**answer, text: answer[text] + 1}
                at = refusal(Wrong, lowered_answer, sayings, other).at
                self.assertEqual(at, first_wrong(sayings, other))
                self.assertEqual(at, refusal(Wrong, run_of, program, other).at)

    def test_renamed_all_along(self):
        """With other names for all, the same numbers hold of the same sayings."""
        for program, begin, more in SMALL:
            answer = answer_of(program, begin, more)
            names = {text: f"n{at}" for at, text in enumerate(answer)}
            sayings = [renamed(saying, names) for saying in sayings_of(program)]
            other = {names[text]: number for text, number in answer.items()}
            self.assertIsNone(first_wrong(sayings, other))
            self.assertIsNone(first_wrong(lowered(sayings), lowered_answer(sayings, other)))
            back = {new: text for text, new in names.items()}
            self.assertEqual([renamed(saying, back) for saying in sayings], sayings_of(program))

    def test_either_of_two_runs(self):
        """The numbers of one program's runs, or of another's: told by one saying."""
        up, down = Program(1, [("raise", 0), ("stop",)]), Program(1, [("lower", 0), ("stop",)])
        of_up, of_down = [made_one(lowered(sayings_of(program))) for program in (up, down)]
        both = either(of_up, of_down)
        for program, other in [(up, of_down), (down, of_up)]:
            told = lowered_answer(sayings_of(program), answer_of(program, [1]))
            self.assertIs(holds(both, told), True)
            self.assertIs(holds(other, told), False)
            self.assertIs(holds(both, {**told, "y0": told["y0"] + 1}), False)

    def test_at_the_desk(self):
        for program, begin, more in SMALL:
            desk = Desk()
            desk.say("keep p " + show_program(program).replace("\n", "/"))
            contents = " ".join(str(held) for held in begin)
            word, stands = ran(program, begin)
            self.assertEqual(word, "stopped")
            self.assertEqual(desk.say(f"more p {more} {contents}"), f"{len(stands) - 1} steps")
            answer = answer_of(program, begin, more)
            self.assertEqual({text: int(desk.say(f"number {text}")) for text in answer}, answer)
            self.assertEqual([desk.say(f"saying p {k}") for k in range(int(desk.say("sayings p")))],
                             [show_saying(saying) for saying in sayings_of(program)])
            self.assertEqual((desk.say("look"), desk.say("off")), ("holds", "0"))
            self.assertEqual(desk.say("back"), " ".join(
                f"{row}:" + ",".join(str(held) for held in contents) for row, contents in stands))

    def test_programs_by_chance(self):
        """Runs that stop are answered and read back; of all others there is no answer."""
        chance = random.Random(12)
        for _ in range(150):
            program = by_chance(chance)
            begin = [chance.randrange(6) for _ in range(program.boxes)]
            word, stands = ran(program, begin)
            if word != "stopped":
                self.assertEqual(refusal(NoAnswer, answer_of, program, begin).word, word)
                continue
            answer = answer_of(program, begin, chance.randrange(9))
            sayings = sayings_of(program)
            self.assertEqual(far_off(sayings, answer), 0)
            self.assertEqual(run_of(program, answer), stands)
            self.assertEqual(plain(lifted(sayings, {"zz": 1, **answer, "l99": 2})), plain(answer))


if __name__ == "__main__":
    unittest.main()
