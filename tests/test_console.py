"""drawnrings.console: all lines, what is none, and scripts with and without `some`."""

import itertools
import random
import unittest

from drawnrings.asking import covers, frees
from drawnrings.bounds import dark, reach, sure
from drawnrings.console import Console
from drawnrings.errors import InvalidText, NotAScript
from drawnrings.scripts import Script
from tests.helpers import Agreeable, Case, all_but, pseudo_scripts, values_of_all_kinds

NIGHT = Script("cloth 2 5", "left 1 to 0", "right 1 to 20")
CHILD = Script("cloth 2 5", "some to 0", "right 1 to 30")
ENDED = Script("cloth 2 5 from 4", "carry 7")
FREE = Script("cloth 2 5", "carry 7")

# Its least number is 4, and there are three rings less at the end.
FEWER = Script("cloth 2 5", "off left", "off right", "off left", "left 1 to 0")

# Its least number is 3, and there are two rings more at the end.
MORE = Script("cloth 2 5", "left 3 to 0", "on left 3", "on right 7")

GREAT = 10 ** 39


def listed(stretches, nothing):
    """Stretches as the console tells them."""
    words = []
    for first, last in stretches:
        if last is None:
            words.append(f"{first} on")
        elif last == first:
            words.append(f"{first}")
        else:
            words.append(f"{first} to {last}")
    return ", ".join(words) or nothing


def place(told):
    """What `reach` returns as the console tells it."""
    if told == (None, None):
        return "anywhere"
    if told[1] is None:
        return f"from {told[0]} on"
    return f"at {told[0]}" if told[0] == told[1] else f"{told[0]} to {told[1]}"


class ConsoleCase(Case):
    def check_none(self, script, line):
        """The line is none for this script; the one that is raised has the very value that was passed."""
        console = Console(script)
        self.check_given(InvalidText, line, console.say, line)
        self.check_given(InvalidText, line, console.say, line=line)


class Examples(ConsoleCase):
    def test_examples_of_the_document(self):
        console = Console(NIGHT)
        lines = (
            "least", "rings 7", "row 2", "ring 1 of 4", "ring 3 of 6", "sure of 6", "dark of 6", "covers 0 20",
            "frees 0 9",
        )
        told = ["1", "7", "right 1 to 20", "at 5", "5 to 10", "1, 6", "0 to 20", "5 on", "1 to 3"]
        self.assertEqual([console.say(line) for line in lines], told)

    def test_by_name(self):
        self.assertEqual(Console(script=NIGHT).say(line="least"), "1")


class Consoles(ConsoleCase):
    def test_what_is_no_script(self):
        for value in all_but(lambda value: isinstance(value, Script)):
            with self.subTest(type(value).__name__):
                self.check_given(NotAScript, value, Console, value)
                self.check_given(NotAScript, value, Console, script=value)

    def test_script(self):
        for script in (NIGHT, CHILD):
            self.assertIs(Console(script).script, script)
            self.assertIs(bool(Console(script)), True)

    def test_equal_to_itself_alone(self):
        console = Console(NIGHT)
        for other in (Console(NIGHT), NIGHT, Agreeable(), *values_of_all_kinds()):
            with self.subTest(type(other).__name__):
                self.assertIs(console == other, False)
                self.assertIs(console != other, True)
        self.assertIs(console == console, True)
        self.assertIs(console != console, False)


class Lines(ConsoleCase):
    def test_least(self):
        for script, told in (
            (NIGHT, "1"), (CHILD, "1"), (FEWER, "4"), (MORE, "3"), (Script("cloth 1 2", "right 5 to 0"), "5"),
        ):
            self.assertEqual(Console(script).say("least"), told)

    def test_rings(self):
        for script, change in ((NIGHT, 0), (CHILD, 0), (FEWER, -3), (MORE, 2)):
            console = Console(script)
            for n in (script.least, script.least + 1, 9, 10, 99, 100, GREAT, 10 * GREAT - 1):
                self.assertEqual(console.say(f"rings {n}"), str(n + change))
            for n in (script.least - 1, 0, -1, -GREAT):
                self.check_none(script, f"rings {n}")

    def test_row(self):
        script = Script("cloth 1 9 from -3", *[f"carry {number}" for number in range(10)])
        for index in range(11):
            self.assertEqual(Console(script).say(f"row {index}"), script.rows[index])
        for index in (-1, 11, 12, -11, GREAT, -GREAT):
            self.check_none(script, f"row {index}")
        self.assertEqual(Console(CHILD).say("row 1"), "some to 0")
        self.assertEqual(Console(Script("cloth 1 2")).say("row 0"), "cloth 1 2")
        self.check_none(Script("cloth 1 2"), "row 1")

    def test_ring(self):
        for script, n, ring, told in (
            (NIGHT, 4, 1, "at 5"), (NIGHT, 6, 3, "5 to 10"), (NIGHT, 1, 1, "at 20"), (CHILD, 3, 1, "at 20"),
            (FREE, 3, 2, "anywhere"),
            (ENDED, 3, 1, "from 11 on"), (ENDED, 3, 2, "from 13 on"), (FREE, GREAT, GREAT, "anywhere"),
            (CHILD, 20, 1, "-65 to -8"),
            (Script("cloth 2 5 from -4"), 2, 2, "from -2 on"), (Script("cloth 2 5", "right 1 to 0"), 2, 1, "-5 to -2"),
            (Script("cloth 2 5", "left 1 to -7"), 2, 1, "at -7"), (NIGHT, GREAT, GREAT, "at 20"),
            (NIGHT, GREAT, 1, f"at {20 - 2 * (GREAT - 1)}"), (Script("cloth 2 5", "left 1 to 0"), 2, 2, "2 to 5"),
        ):
            self.assertEqual(Console(script).say(f"ring {ring} of {n}"), told)

    def test_rings_that_are_not_there(self):
        for script in (NIGHT, CHILD, FEWER, MORE, FREE):
            console = Console(script)
            for n in (script.least, script.least + 4, GREAT):
                rings = n + script.change
                for ring in (1, rings):
                    self.assertIs(type(console.say(f"ring {ring} of {n}")), str)
                for ring in (0, -1, rings + 1, rings + GREAT):
                    self.check_none(script, f"ring {ring} of {n}")
            for n in (script.least - 1, 0, -1, -GREAT):
                self.check_none(script, f"ring 1 of {n}")

    def test_sure(self):
        for script, n, told in (
            (NIGHT, 6, "1, 6"), (NIGHT, 12, "1 to 12"), (NIGHT, 1, "1"), (FREE, 3, "none"), (FREE, GREAT, "none"),
            (ENDED, 3, "none"),
            (NIGHT, GREAT, f"1 to {GREAT}"), (CHILD, 3, "1 to 3"),
            (Script("cloth 2 5", "left 1 to 0", "on left 0"), 2, "1 to 2"),
            (Script("cloth 2 5", "on left 0"), 4, "1"), (Script("cloth 2 5", "left 3 to 7"), 6, "3"),
        ):
            self.assertEqual(Console(script).say(f"sure of {n}"), told)
        for script in (NIGHT, FEWER, MORE):
            for n in (script.least - 1, -1, -GREAT):
                self.check_none(script, f"sure of {n}")

    def test_dark(self):
        for script, n, told in (
            (NIGHT, 6, "0 to 20"), (NIGHT, 4, "5 to 20"), (CHILD, 1, "none"), (FREE, 9, "none"), (ENDED, 9, "none"),
            (Script("cloth 2 5", "right 1 to 0"), 2, "-2 to 0"), (Script("cloth 1 5", "right 1 to 0"), 2, "none"),
            (Script("cloth 2 5", "left 1 to 0"), GREAT, f"0 to {2 * (GREAT - 1)}"),
            (Script("cloth 2 5", "right 1 to -3"), 3, "-7 to -3"),
        ):
            self.assertEqual(Console(script).say(f"dark of {n}"), told)
        for script in (NIGHT, FEWER, MORE):
            for n in (script.least - 1, -1, -GREAT):
                self.check_none(script, f"dark of {n}")

    def test_covers(self):
        for script, a, b, told in (
            (NIGHT, 0, 20, "5 on"), (NIGHT, -3, 20, "13 on"), (NIGHT, 0, 21, "never"), (CHILD, 3, 30, "7 on"),
            (FREE, 0, 2, "never"),
            (NIGHT, -GREAT, 20, f"{GREAT // 2 + 11} on"), (NIGHT, -GREAT, GREAT, "never"), (NIGHT, 20, 22, "never"),
        ):
            self.assertEqual(Console(script).say(f"covers {a} {b}"), told)

    def test_frees(self):
        for script, a, b, told in (
            (NIGHT, 0, 9, "1 to 3"), (NIGHT, 20, 30, "1 on"), (NIGHT, 0, 20, "1"), (NIGHT, -9, -7, "1 to 14"),
            (FREE, 0, 2, "never"),
            (CHILD, 0, 9, "some"), (CHILD, -GREAT, GREAT, "some"), (NIGHT, 0, 10 * GREAT - 1, "never"),
            (NIGHT, 20, GREAT, "1 on"),
        ):
            self.assertEqual(Console(script).say(f"frees {a} {b}"), told)

    def test_several_stretches(self):
        seen = []
        for rows in pseudo_scripts("several", 300, 7, 9):
            script = Script(*rows)
            for n in range(script.least, script.least + 12):
                told = Console(script).say(f"sure of {n}")
                self.assertEqual(told, listed(sure(script, n), "none"))
                seen.append((told.count(","), "to" in told))
        for kind in ((0, False), (0, True), (1, False), (1, True)):
            self.assertGreater(seen.count(kind), 0, kind)
        three = Script("cloth 1 3", "left 2 to -37", "carry 35", "off left", "left 5 to 7", "on right 28")
        self.assertEqual(Console(three).say("sure of 13"), "1, 5, 13")

    def test_beside_the_functions(self):
        told = random.Random("console")
        for rows in pseudo_scripts("console", 200, 7, 9, with_some=True):
            script = Script(*rows)
            console = Console(script)
            for n in (script.least, script.least + told.randint(1, 9), script.least + told.randint(10, 60)):
                ring = told.randint(1, n + script.change)
                window = dark(script, n)
                a, b = told.randint(-30, 0), told.randint(2, 30)
                for line, wanted in (
                    (f"ring {ring} of {n}", place(reach(script, n, ring))),
                    (f"sure of {n}", listed(sure(script, n), "none")),
                    (f"dark of {n}", "none" if window is None else f"{window[0]} to {window[1]}"),
                    (f"covers {a} {b}", listed(covers(script, a, b), "never")),
                    (f"frees {a} {b}", listed(frees(script, a, b), "never") if script.known else "some"),
                    (f"rings {n}", str(n + script.change)), ("least", str(script.least)),
                ):
                    with self.subTest(rows, line=line):
                        self.assertEqual(console.say(line), wanted)
                        self.assertEqual(console.say(line), wanted)

    def test_windows_that_are_none(self):
        for script in (NIGHT, CHILD):
            for word in ("covers", "frees"):
                for a, b in ((0, 1), (0, 0), (0, -1), (5, 6), (GREAT, GREAT + 1), (GREAT, -GREAT), (-GREAT, 1 - GREAT)):
                    self.check_none(script, f"{word} {a} {b}")
                for a, b in ((0, 2), (-2, 0), (GREAT, GREAT + 2), (-GREAT, GREAT)):
                    self.assertIs(type(Console(script).say(f"{word} {a} {b}")), str)


class NoLines(ConsoleCase):
    LINES = (
        "least", "rings 7", "row 2", "ring 3 of 6", "sure of 6", "dark of 6", "covers 0 20", "frees 0 9",
        "covers -3 20",
    )

    def test_the_lines_from_which_the_others_are_made(self):
        for line in self.LINES:
            self.assertIs(type(Console(NIGHT).say(line)), str)

    def test_values_that_are_no_strings(self):
        for value in all_but(lambda value: False):
            with self.subTest(type(value).__name__):
                self.check_none(NIGHT, value)
        for line in self.LINES:
            for value in (
                line.encode(), [line], (line,), line.split(" "), tuple(line.split(" ")), {line: line}, {line},
            ):
                self.check_none(NIGHT, value)

    def test_a_sign_more(self):
        for line in self.LINES:
            for at in range(len(line) + 1):
                for sign in (" ", "\n", "\t", "+", "_", ".", ",", "x", "~", "!"):
                    self.check_none(NIGHT, line[:at] + sign + line[at:])
            for sign in ("  ", "\n\n", " 1", " x", "\r", ";", " of", " 0"):
                self.check_none(NIGHT, line + sign)
                self.check_none(NIGHT, sign + line)

    def test_a_sign_less(self):
        still_lines = ("covers 0 2", "covers -3 2", "covers -3 0", "covers 3 20")
        for line in self.LINES:
            for at in range(len(line)):
                other = line[:at] + line[at + 1:]
                if other not in still_lines:
                    self.check_none(NIGHT, other)

    def test_words_more_less_and_exchanged(self):
        for line in self.LINES:
            words = line.split(" ")
            for at in range(len(words)):
                if len(words) > 1:
                    self.check_none(NIGHT, " ".join(words[:at] + words[at + 1:]))
                self.check_none(NIGHT, " ".join([*words[:at], words[at], *words[at:]]))
            for other in itertools.permutations(words):
                if list(other) != words and other[0] == words[0] and words[0] not in ("covers", "frees", "ring"):
                    self.check_none(NIGHT, " ".join(other))
        for line in (
            "ring of 3 6", "ring 3 6 of", "ring of 6", "ring 3 of", "ring 3", "ring", "sure 6 of", "dark 6",
            "20 covers 0", "frees 9 0",
        ):
            self.check_none(NIGHT, line)

    def test_capital_letters(self):
        for line in self.LINES:
            for other in (line.upper(), line.title(), line.capitalize(), line.replace("of", "Of"), line.swapcase()):
                if other != line:
                    self.check_none(NIGHT, other)

    def test_how_numbers_are_written(self):
        for write in (
            "+{}", "0{}", "00{}", "-0{}", "{}.0", "{}.", " {}", "{} ", "{}\n", "{}_0", "({})", "'{}'", "{}e0", "0x{}",
            "--{}", "+-{}", "- {}",
            "{}L", "\t{}", "0" * 1900 + "{}",
        ):
            for line, numbers in (
                ("rings {}", (7,)), ("row {}", (2,)), ("ring {} of {}", (3, 6)), ("sure of {}", (6,)),
                ("dark of {}", (6,)),
                ("covers {} {}", (0, 20)), ("frees {} {}", (2, 9)), ("covers {} {}", (-3, 20)),
            ):
                for at in range(len(numbers)):
                    words = [str(number) for number in numbers]
                    words[at] = write.format(words[at])
                    if write == "--{}" and numbers[at] == 0:
                        continue
                    self.check_none(NIGHT, line.format(*words))

    def test_minus_zero(self):
        for line in (
            "row -0", "rings -0", "ring -0 of 6", "covers -0 20", "covers -2 -0", "frees -0 9", "frees -9 -0",
            "sure of -0",
        ):
            self.check_none(NIGHT, line)
            self.check_none(CHILD, line)
        self.assertEqual([Console(NIGHT).say(line) for line in ("covers 0 2", "row 0")], ["5 on", "cloth 2 5"])

    def test_numbers_that_are_none(self):
        for word in ("", "x", "one", "None", "True", "n", "N", "seven", "1/2", "1,000", "1 000", "*", "?"):
            for line in (
                "rings {}", "row {}", "ring {} of 6", "ring 1 of {}", "sure of {}", "dark of {}", "covers {} 9",
                "covers 0 {}", "frees {} 9", "frees 0 {}",
            ):
                self.check_none(NIGHT, line.format(word))
                self.check_none(CHILD, line.format(word))

    def test_digits_of_other_scripts(self):
        # They are digits for Python, but Python does not write integers so.
        for digit in ("\u0667", "\uff17", "\u00b2"):
            self.check_none(NIGHT, f"rings {digit}")
            self.check_none(NIGHT, f"covers 0 {digit}")

    def test_other_words(self):
        for line in (
            "", " ", "\n", "most", "known", "rows", "text", "ring", "cover 0 20", "free 0 9", "bounds 1 of 4",
            "reach 1 of 4", "spread of 4",
            "leasts", "least 1", "least of 1", "rings of 7", "rows 2", "row 2 of 3", "sure at 6", "dark from 6",
            "ring 1 at 4", "ring 1 off 4",
            "cloth 2 5", "left 1 to 0", "help", "undo", "quit", "say least", "sure", "dark", "sure of", "covers",
            "covers 0", "covers 0 20 5",
            "covers 0 to 20", "covers 0, 20", "x" * 2000, "9" * 2000, "rings " + "x" * 1900, " " * 2000,
        ):
            self.check_none(NIGHT, line)
            self.check_none(CHILD, line)

    def test_behind_an_error_the_console_answers_as_before(self):
        console = Console(NIGHT)
        for line in self.LINES:
            before = console.say(line)
            self.check_given(InvalidText, "ring 0 of 6", console.say, "ring 0 of 6")
            self.assertEqual(console.say(line), before)
        self.assertIs(console.script, NIGHT)


if __name__ == "__main__":
    unittest.main()
