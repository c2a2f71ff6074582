"""Promise [16]: the desk's answers, and which row it refuses."""

import random
import unittest

from roundnews.desk import answers
from roundnews.errors import BadRow, NewsError
from tests.plain_desk import plain_answers, plain_fault

HEAD = "make 15 10 3 4 60\nhouses 3\nstreet 0 1 3\nstreet 1 2 2\n"
# Rows that can stand anywhere behind the net.
ACTS = [
    "tell 0 2:ab", "tell 2 0:", "take 1", "fall 2", "down 1", "up 0", "step 1", "step 300", "held 0", "log 2",
    "settled", "trail 2 0",
]
FATES = ["lose 4", "late 5 1", "twice 6 40"]


def sheet(*rows):
    return HEAD + "\n".join(rows)


class Answers(unittest.TestCase):
    def test_no_asks(self):
        for text in (HEAD, HEAD[:-1], "make 3 1 1 1 1\nhouses 1", sheet("lose 0"), sheet("step 5", "tell 0 1:a")):
            self.assertEqual(answers(text), [])

    def test_ahead_of_any_step(self):
        told = answers(sheet("held 0", "log 1", "settled", "trail 2 0", "trail 1 1"))
        self.assertEqual(told, ["-", "-", "yes", "-", "-"])
        # Events are done by the next step only.
        self.assertEqual(answers(sheet("tell 0 1:a", "held 0", "log 0", "settled", "fall 1", "log 1")), [
            "-", "-", "yes", "-"])

    def test_held(self):
        text = sheet("tell 2 7:a: b  c", "tell 0 0:", "take 1", "step 7", "held 0", "held 1", "held 2", "held 2")
        rows = "0 0 7 0:\n1 0 7 -\n2 0 7 7:a: b  c"
        self.assertEqual(answers(text), [rows] * 4)

    def test_log(self):
        text = sheet("step 5", "tell 0 1:a", "step 3", "take 0", "step 1", "log 0", "log 1", "log 2", "step 9", "log 2")
        self.assertEqual(answers(text), [
            "5 told 0; 8 told 1", "8 took 0 0 0", "-", "10 took 1 0 0; 13 took 1 0 1"])

    def test_log_tells_what_it_told_and_took_in_alone(self):
        # The fall, what ended, what was heeded, and what was dropped for room aren't told.
        text = "make 15 10 3 1 60\nhouses 3\nstreet 0 1 3\nstreet 1 2 2\nstep 5\ntell 2 1:c\nstep 1\ntell 0 1:a\n"
        text += "tell 1 1:b\nstep 4\nfall 1\nstep 30\nlog 0\nlog 1\nlog 2"
        self.assertEqual(answers(text), plain_answers(text))
        self.assertEqual(answers(text)[1], "6 told 0; 7 took 2 2 0; 9 took 0 0 0; 14 took 2 0 0")

    def test_settled(self):
        rows = ["step 5", "tell 0 1:a", "step 1", "settled", "step 2", "settled", "step 3", "settled"]
        self.assertEqual(answers(sheet(*rows)), ["no", "no", "yes"])
        # By the streets that are up now.
        rows = ["down 0", "step 1", "tell 0 1:a", "step 1", "settled", "up 0", "settled", "step 1", "settled"]
        self.assertEqual(answers(sheet(*rows)), ["yes", "yes", "no"])
        rows = ["down 0", "down 1", "tell 0 1:a", "step 1", "settled", "tell 2 1:b", "step 1", "settled", "up 1",
                "settled", "step 1", "settled"]
        self.assertEqual(answers(sheet(*rows)), ["yes", "yes", "yes", "no"])
        # Of the room least tellers alone.
        for room, told in ((1, "yes"), (2, "no")):
            text = f"make 15 20 3 {room} 60\nhouses 3\nstreet 0 1 3\nstep 5\ntell 0 1:a\nstep 5\n"
            self.assertEqual(answers(text + "tell 1 1:b\nstep 1\nsettled"), [told])

    def test_trail(self):
        rows = ["step 5", "tell 0 1:a", "step 6", "trail 2 0", "trail 1 0", "trail 0 0", "trail 0 1", "fall 2"]
        rows += ["step 1", "trail 2 0"]
        self.assertEqual(answers(sheet(*rows)), ["5:0 8:1 10:2", "5:0 8:1", "-", "-", "-"])

    def test_fates(self):
        rows = ["lose 4", "step 5", "tell 0 1:a", "step 9", "log 1"]
        self.assertEqual(answers(sheet(*rows)), ["-"])
        rows[0] = "late 4 2"
        self.assertEqual(answers(sheet(*rows)), ["10 took 0 0 0"])
        rows = ["twice 4 3", "step 5", "tell 0 1:a", "step 4", "fall 1", "step 4", "log 1"]
        self.assertEqual(answers(sheet(*rows)), ["8 took 0 0 0; 11 took 0 0 0"])

    def test_events_are_done_in_the_first_of_the_ticks(self):
        rows = ["tell 0 1:a", "step 4", "tell 0 1:b", "step 1", "log 0"]
        self.assertEqual(answers(sheet(*rows)), ["0 told 0; 4 told 1"])
        # Once, and no more behind that.
        rows = ["tell 0 1:a", "step 300", "step 5", "log 0"]
        self.assertEqual(answers(sheet(*rows)), ["0 told 0"])

    def test_events_behind_the_last_step_are_never_done(self):
        rows = ["tell 0 1:a", "step 1", "fall 0", "take 0", "down 0", "held 0", "log 0", "settled"]
        self.assertEqual(answers(sheet(*rows)), ["0 0 1 1:a", "0 told 0", "no"])

    def test_rows_without_signs(self):
        text = "\n\nmake 15 10 3 4 60\n\n\nhouses 3\n\nstreet 0 1 3\n\n\nlose 4\n\ntell 0 1:a\n\nstep 1\n\nheld 0\n\n"
        self.assertEqual(answers(text), ["0 0 1 1:a"])

    def test_the_same_is_told_the_same_and_is_the_asker_s(self):
        text = sheet("tell 0 1:a", "step 3", "held 0", "log 0")
        told = answers(text)
        told.append("x")
        told[0] = "y"
        self.assertEqual(answers(text), ["0 0 3 1:a", "0 told 0"])


class Refusals(unittest.TestCase):
    def refused(self, row, text):
        with self.assertRaises(NewsError) as caught:
            answers(text)
        self.assertIs(type(caught.exception), BadRow, text)
        self.assertIsInstance(caught.exception, ValueError)
        self.assertEqual(caught.exception.row, row, text)
        self.assertEqual(plain_fault(text), row, text)

    def taken(self, text):
        answers(text)
        self.assertIsNone(plain_fault(text), text)

    def behind_the_net(self, *rows):
        """The last of these rows is at fault."""
        self.refused(3 + len(rows), sheet(*rows))
        self.refused(3 + len(rows), sheet(*rows, "no row", "make 1"))
        self.refused(5 + len(rows), sheet("", "", *rows, "held 0"))

    def test_a_text_that_ends_ahead_of_the_net_s_first_row(self):
        self.refused(1, "")
        self.refused(2, "\n")
        self.refused(5, "\n\n\n\n")
        self.refused(1, "make 15 10 3 4 60")
        self.refused(2, "make 15 10 3 4 60\n")
        self.refused(2, "\nmake 15 10 3 4 60")
        self.refused(6, "\n\nmake 15 10 3 4 60\n\n\n")

    def test_the_make_comes_first(self):
        for row in ("houses 3", "street 0 1 3", "lose 1", "tell 0 1:a", "step 1", "held 0", "settled", " ", "make"):
            self.refused(0, row)
            self.refused(2, "\n\n" + row + "\n" + HEAD)

    def test_the_make(self):
        for numbers in (
                "2 10 3 4 60", "0 10 3 4 60", "15 0 3 4 60", "15 10 0 4 60", "15 10 3 0 60", "15 10 3 4 0",
                "15 10 3 4", "15 10 3 4 60 1", "15 10 3 4 60 ", " 15 10 3 4 60", "15  10 3 4 60", "15 10 3 4 060",
                "015 10 3 4 60", "+15 10 3 4 60", "15 -10 3 4 60", "15 10 3 4 x", "", "15,10,3,4,60",
                "1000000000000 10 3 4 60", "15 10 3 4 1000000000000"):
            self.refused(0, f"make {numbers}\nhouses 1")
        self.taken("make 3 1 1 1 1\nhouses 1")
        self.taken("make " + " ".join(["999999999999"] * 5) + "\nhouses 1\nfall 0\ntell 0 1:a\nstep 3\nheld 0")
        self.refused(1, "make 15 10 3 4 60\nmake 15 10 3 4 60")
        self.behind_the_net("make 15 10 3 4 60")

    def test_the_net_s_first_row(self):
        for row in (
                "houses 0", "houses 03", "houses", "houses 3 ", "houses 10000", "houses -3", "street 0 1 3", "lose 1",
                "held 0", "settled", "step 1", " ", "housess 3"):
            self.refused(1, f"make 15 10 3 4 60\n{row}")
            self.refused(3, f"make 15 10 3 4 60\n\n\n{row}\nhouses 3")
        self.behind_the_net("houses 3")
        self.behind_the_net("step 1", "houses 3")

    def test_streets(self):
        for row in (
                "street 0 1 3", "street 0 1 9", "street 1 2 1", "street 1 0 1", "street 0 0 1", "street 2 3 1",
                "street 0 2 0", "street 0 2", "street 0 2 1 1", "street 0 2 01", "street 0 2 10000", "street 0  2 1",
                "street 0 2 1 ", " street 0 2 1", "street", "street 0 2 x"):
            self.behind_the_net(row)
        self.taken(sheet("street 0 2 9999"))
        self.taken(sheet("", "street 0 2 1", "", "lose 4"))

    def test_a_street_behind_other_rows(self):
        for row in FATES + ACTS:
            self.taken(sheet("street 0 2 1", row))
            self.behind_the_net(row, "street 0 2 1")

    def test_a_fate_behind_an_event_a_step_or_an_ask(self):
        for row in ACTS:
            for fate in FATES:
                self.taken(sheet(fate, row))
                self.behind_the_net(row, fate)
                self.behind_the_net(FATES[0] + "0", row, fate)

    def test_fates(self):
        for row in (
                "lose", "lose ", "lose 1 1", "lose 01", "lose -1", "lose x", "lose 1000000000000", " lose 1", "lose  1",
                "lose 1 ", "late 1", "late 1 0", "late 1 00", "late 1 01", "late 1 -1", "late 1 2 3", "late", "late 1 ",
                "late 1 1000000000000", "twice 1", "twice 1 0", "twice 1 2 3", "twice 01 2", "twice x 2", "Lose 1"):
            self.behind_the_net(row)
            self.behind_the_net("late 9 1", row)
        self.taken(sheet("lose 0", "late 999999999999 1", "twice 3 999999999999"))

    def test_no_letter_twice(self):
        for row in ("lose 4", "late 4 1", "twice 4 1"):
            for other in ("lose 4", "late 4 1", "twice 4 1", "twice 4 2"):
                self.behind_the_net(row, other)
                self.behind_the_net("lose 3", row, "late 5 1", other)
        self.taken(sheet("lose 4", "late 14 4", "twice 44 4"))

    def test_events(self):
        for row in (
                "tell", "tell 0", "tell 0 ", "tell 0 1", "tell 0 1a", "tell 0 :a", "tell 0 2:a", "tell 0 0:a",
                "tell 0 1:", "tell 0 -", "tell 0 01:a", "tell 00 1:a", "tell 0  1:a", " tell 0 1:a", "tell  0 1:a",
                "tell 0 1:a ", "tell 0 1 :a", "tell 0 +1:a", "tell -0 1:a", "tell x 1:a", "tell 0 31:" + "a" * 31,
                "tell 0 1000000000000:a", "tell 0 1:\t", "tell 0 1:\xe9", "tell 0 1:\x7f", "Tell 0 1:a",
                "take", "take ", "take 0 0", "take 00", "take x", "take 0 ", "take  0", "fall", "fall 0 1:a", "fall -1",
                "down", "down 0 1", "down 01", "down +0", "up", "up 0 0", "up x", "up 0 ", "Up 0", "upp 0"):
            self.behind_the_net(row)
            self.behind_the_net("step 1", "held 0", row)
        self.taken(sheet("tell 0 30:" + "a" * 30, "tell 0 3:: :", "tell 0 4:a b ", "tell 0 1: "))

    def test_steps(self):
        for row in (
                "step", "step 0", "step 301", "step 1000", "step 01", "step -1", "step +1", "step 1 1", "step 1 ",
                "step  1", "step x", "steps 1", "step 1.", "step 1000000000000", " step 1"):
            self.behind_the_net(row)
            self.behind_the_net("step 1", "held 0", row)
        self.taken(sheet("step 1", "step 300"))

    def test_asks(self):
        for row in (
                "held", "held ", "held 0 0", "held 00", "held x", "held 0 ", "held  0", "log", "log 0 1", "log -1",
                "log 0 ", "settled ", " settled", "settled 0", "settle", "Settled", "trail", "trail 0", "trail 0 ",
                "trail 0 1 2", "trail 00 1", "trail 0 01", "trail 0  1", "trail 0 x", "trail -1 0", "held 0\r"):
            self.behind_the_net(row)
            self.behind_the_net("step 1", "held 0", row)

    def test_other_rows(self):
        for row in ("x", " ", "  ", "-", "0", "#", "hold 0", "\t", "ticks", "letter", "house", "tell:0", "now", "sent"):
            self.behind_the_net(row)
            self.behind_the_net("lose 4", row)
            self.behind_the_net("settled", row)

    def test_a_house_that_there_isn_t(self):
        for house in ("3", "4", "11", "12", "999999999999"):
            for row in (
                    f"tell {house} 1:a", f"take {house}", f"fall {house}", f"held {house}", f"log {house}",
                    f"trail {house} 0", f"trail 0 {house}"):
                self.behind_the_net(row)
                self.behind_the_net("step 2", row)
        self.taken(sheet("tell 2 1:a", "take 2", "fall 2", "held 2", "log 2", "trail 2 2", "step 1"))

    def test_a_street_that_there_isn_t(self):
        for street in ("2", "3", "30", "999999999999"):
            for word in ("down", "up"):
                self.behind_the_net(f"{word} {street}")
                self.behind_the_net("step 2", f"{word} {street}")
        self.refused(2, "make 15 10 3 4 60\nhouses 3\nup 0")
        self.taken(sheet("down 1", "up 1", "down 0", "step 1"))
        self.taken(sheet("street 0 2 1", "down 2"))

    def test_the_first_of_several(self):
        self.refused(4, sheet("held 3", "", "lose", "held 3", "x"))
        self.refused(7, sheet("held 2", "", "step 300", "late 1 1", "held 3", "x"))
        self.refused(0, "make 2 1 1 1 1\nhouses 0\nx")
        self.refused(1, "make 3 1 1 1 1\nhouses 0\nx")

    def test_ahead_of_all(self):
        # A step of any length ahead of the row at fault isn't waited for.
        self.refused(4 + 200, sheet(*(["step 300"] * 200 + ["held 3"])))


def some_row(chance, houses, streets):
    """A row, most often a right one somewhere."""
    house, other = chance.randrange(houses + 1), chance.randrange(houses)
    street, letter = chance.randrange(max(streets, 1)), chance.randrange(40)
    words = chance.choice(["", "a", "b c", ":", "-", "1:a", "~" * 30])
    weights = {
        f"street {other} {house} {letter % 4}": 1, f"lose {letter}": 1, f"late {letter} {letter % 5}": 1,
        f"twice {letter} {letter % 7}": 1, f"tell {other} {len(words)}:{words}": 6, f"take {other}": 2,
        f"fall {other}": 1, f"down {street}": 2, f"up {street}": 2, f"step {chance.randrange(1, 12)}": 6,
        f"held {other}": 2, f"log {other}": 2, "settled": 6, f"trail {other} {house}": 1, f"fall {house}": 1, "": 1,
    }
    return chance.choices(list(weights), list(weights.values()))[0]


class AgainstPlainRendering(unittest.TestCase):
    def head(self, chance):
        houses = chance.randrange(1, 6)
        pairs = [(one, other) for other in range(houses) for one in range(other)]
        chance.shuffle(pairs)
        pairs = pairs[:chance.randrange(8)]
        rows = [f"make {chance.randrange(9, 40)} {chance.randrange(1, 20)} {chance.randrange(1, 5)} "
                f"{chance.randrange(1, 5)} {chance.randrange(1, 9)}", f"houses {houses}"]
        rows += [f"street {one} {other} {chance.randrange(1, 5)}" for one, other in pairs]
        letters = chance.sample(range(60), chance.randrange(12))
        rows += [chance.choice([f"lose {at}", f"late {at} {at % 9 + 1}", f"twice {at} {at % 7 + 1}"]) for at in letters]
        return houses, len(pairs), rows

    def test_right_sheets(self):
        chance = random.Random(1)
        told = []
        for _ in range(150):
            houses, streets, rows = self.head(chance)
            for _ in range(chance.randrange(40)):
                row = some_row(chance, houses, streets)
                if plain_fault("\n".join(rows + [row])) is None:
                    rows.append(row)
            text = "\n".join(rows)
            self.assertEqual(answers(text), plain_answers(text))
            told += answers(text)
        self.assertGreater(told.count("yes"), 20)
        self.assertGreater(told.count("no"), 20)
        self.assertGreater(told.count("-"), 20)
        self.assertGreater(sum(1 for answer in told if ":" in answer and ";" not in answer), 20)

    def test_sheets_at_fault(self):
        chance = random.Random(2)
        faults = {}
        for _ in range(2500):
            houses, streets, rows = self.head(chance)
            rows += [some_row(chance, houses, streets) for _ in range(chance.randrange(4))]
            text = "\n".join(rows)
            for _ in range(chance.randrange(3)):
                place = chance.randrange(len(text) + 1)
                text = text[:place] + chance.choice(["", *" 01:x\n-"]) + text[place + chance.randrange(2):]
            fault = plain_fault(text)
            if fault is None:
                answers(text)
            else:
                with self.assertRaises(BadRow) as caught:
                    answers(text)
                self.assertEqual(caught.exception.row, fault, text)
            faults[fault] = faults.get(fault, 0) + 1
        self.assertGreater(faults[None], 200)
        self.assertGreater(len(faults), 12)

    def test_to_the_bounds(self):
        chance = random.Random(3)
        rows = ["make 1000000 400 1 12 1", "houses 12"]
        pairs = [(one, other) for other in range(12) for one in range(other)]
        rows += [f"street {one} {other} {chance.randrange(1, 10)}" for one, other in chance.sample(pairs, 30)]
        rows += [f"late {letter} 40" for letter in range(60)]
        for at in range(50):
            words = "~" * (at % 31)
            rows += [f"tell {at % 12} {len(words)}:{words}", "step 2", chance.choice(["settled", f"log {at % 12}"])]
        rows += [f"trail {house} {11 - house}" for house in range(12)] + [f"held {house}" for house in range(12)]
        rows += [""] * (300 - len(rows))
        text = "\n".join(rows)
        self.assertEqual(answers(text), plain_answers(text))


if __name__ == "__main__":
    unittest.main()
