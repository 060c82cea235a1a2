"""[25] and [26]: desks, their commands and answers, and what they refuse."""

import unittest

from handlebends.bends import Bend, value
from handlebends.desk import Desk
from handlebends.errors import InvalidBend, InvalidCommand, InvalidText, InvalidTime, NoMark, Refused
from handlebends.live import Live
from handlebends.marks import least

import support

BEGIN = "bend 2 marks 0 2 handles 1 -1 1"


def told(signs):
    """The text of signs."""
    return "".join({-1: "-", 0: "0", 1: "+"}[sign] for sign in signs)


def text_of(worth):
    """The text of a value."""
    p, q = worth
    return f"{p}" if q == 1 else f"{p}/{q}"


def begun(command=BEGIN):
    """A desk with a live drawing."""
    desk = Desk()
    desk.say(command)
    return desk


class Answers(unittest.TestCase):
    def check(self, desk, *rows):
        for command, answer in rows:
            found = desk.say(command)
            self.assertIs(type(found), str)
            self.assertEqual(found, answer, command)

    def test_told(self):
        desk = Desk()
        self.assertIsNone(desk.live)
        self.check(
            desk, (BEGIN, "3"), ("signs", "+0+"), ("pull 1 -3", "+0-0+"), ("value 1", "-1"), ("mark 1", "+0-0+"),
            ("least", "bend 2 marks 0 2 handles 1 -3 1"), ("unmark 1", "done"), ("undo", "+0-0+"), ("undo", "+0-0+"),
            ("undo", "+0+"), ("undo", "nothing"), ("signs", "+0+"), ("value 1/2", "1/4"), ("value 0", "1"))

    def test_each_command(self):
        desk = begun("bend 1 marks 0 1 2 handles 0 1 0")
        self.check(
            desk, ("signs", "0+0"), ("unmark 1", "needed"), ("undo", "nothing"), ("pull 2 -2/3", "0+0-"),
            ("value 3/2", "1/6"), ("value 2", "-2/3"), ("least", "bend 1 marks 0 1 2 handles 0 1 -2/3"),
            ("pull 1 -1/3", "0-"), ("unmark 1", "done"), ("least", "bend 1 marks 0 2 handles 0 -2/3"),
            ("mark 1/7", "0-"), ("pull 0 -5", "-"), ("pull 0 0", "0-"), ("undo", "-"), ("undo", "0-"), ("undo", "0-"),
            ("undo", "0-"), ("undo", "0+0-"), ("undo", "0+0"), ("undo", "nothing"))
        self.assertEqual(desk.live.bend, Bend(1, [0, 1, 2], [0, 1, 0]))

    def test_bend_begins_anew(self):
        desk = begun()
        held = desk.live
        self.assertIs(type(held), Live)
        self.check(desk, ("pull 0 1/2", "+0-0+"), ("bend 0 marks 0 1/2 handles 0", "1"), ("signs", "0"),
                   ("undo", "nothing"), ("value 1/3", "0"),
                   ("bend 4 marks 0 1 1 1 1 2 handles 1 2 3 4 5 6 7 8 -999999999/2", "9"),
                   ("signs", "+0-"), ("pull 8 1/999999999", "+"))
        self.assertIsNot(desk.live, held)
        self.assertEqual(len(held), 1)

    def test_two_digits(self):
        handles = " ".join(["1"] * 15)
        desk = begun(f"bend 10 marks 0 1 2 3 4 5 handles {handles}")
        self.check(desk, ("pull 14 -1", "+0-"), ("pull 10 -9", "+0-0+0-"), ("pull 0 0", "0+0-0+0-"))
        with self.assertRaises(Refused) as caught:
            desk.say("pull 15 1")
        self.assertEqual(caught.exception.at, 15)

    def test_live_can_be_used_too(self):
        desk = begun()
        desk.live.pull(1, -3)
        self.check(desk, ("signs", "+0-0+"), ("undo", "+0+"), ("mark 1", "+0+"))
        self.assertEqual((len(desk.live), desk.live.bend.marks), (1, ((0, 1), (1, 1), (2, 1))))

    def test_many(self):
        step = 3
        for bend in support.many_bends()[::21]:
            desk, live = begun(str(bend)), Live(bend)
            time = support.pair_of((support.frac(bend.marks[0]) + 2 * support.frac(bend.marks[-1])) / 3)
            for _ in range(10):
                step = (step * 37 + 11) % 1009
                self.do(desk, live, step % 6, step // 6, time)
                self.assertEqual((desk.live.bend, len(desk.live)), (live.bend, len(live)))
                self.check(desk, ("signs", told(live.signs)), ("least", str(least(live.bend))),
                           (f"value {text_of(time)}", text_of(value(live.bend, time))))

    def do(self, desk, live, kind, n, time):
        """One deed with both."""
        if kind < 3:
            at, height = n % len(live.bend), support.pair_of(support.Fraction(n % 9 - 4, n % 3 + 1))
            self.check(desk, (f"pull {at} {text_of(height)}", told(live.pull(at, height))))
        elif kind == 3 and live.bend.marks.count(time) < live.bend.degree:
            self.check(desk, (f"mark {text_of(time)}", told(live.mark(time))))
        elif kind == 4 and len(live.bend.marks) > 2:
            mark = live.bend.marks[1]
            self.check(desk, (f"unmark {text_of(mark)}", "done" if live.unmark(mark) else "needed"))
        elif kind == 5:
            self.check(desk, ("undo", told(live.signs) if live.undo() else "nothing"))

    def test_long_values(self):
        desk = begun("bend 2 marks 0 1 handles 0 2 0")
        height, hill = (2, 7), Bend(2, [0, 1], [0, 2, 0])
        for _ in range(12):
            height = value(hill, height)
        desk.live.pull(1, height)
        half = value(desk.live.bend, (1, 2))
        self.assertEqual(desk.say("value 1/2"), str(Bend(0, [0, 1], [half])).split(" ")[-1])
        self.assertGreater(len(desk.say("least")), 4300)
        self.check(desk, ("signs", "0+0"))


class Wrong(unittest.TestCase):
    def check(self, desk, command, kind, kept):
        live = desk.live
        ahead = live and (live.bend, live.signs, len(live))
        with self.assertRaises(kind) as caught:
            desk.say(command)
        self.assertIs(type(caught.exception), kind, command)
        self.assertEqual(vars(caught.exception), kept, command)
        self.assertIs(desk.live, live)
        self.assertEqual(live and (live.bend, live.signs, len(live)), ahead)

    def test_near_to_good_ones(self):
        desk = begun()
        desk.say("pull 1 -3")
        for command in (
                "", " ", "bend", "bend ", " " + BEGIN, BEGIN + " ", BEGIN.replace("marks 0", "marks  0"), BEGIN + "\n",
                "\n", "signs\n", "\nsigns", "bend 2\nmarks 0 2 handles 1 -1 1", "Bend 2 marks 0 2 handles 1 -1 1",
                "bends", "pull", "pull 1", "pull 1 2 3", "pull  1 2", " pull 1 2", "pull 1 2 ", "pull -1 2",
                "pull 01 2", "pull 100 2", "pull 00 2", "pull +1 2", "pull 1/2 2", "pull 1.0 2", "pull one 2",
                "pull 1 2/4", "pull 1 2/1", "pull 1 -0", "pull 1 --2", "pull 1 1/0", "pull 1 0/1", "pull 1 1/-2",
                "pull 1 02", "pull 1 1/02", "pull 1 1.5", "pull 1 +2",
                "pull 1 x", "pull 1 1234567890", "pull 1 1/1234567890", "pull 1 -1234567890", "Pull 1 2", "pull,1,2",
                "pull\t1 2", "mark", "mark 1 1", "mark x", "mark 2/2", "mark  1", "marks 1", "unmark", "unmark 1 2",
                "unmark -0", "value", "value 1 1", "value x", "value 2/4", "value 0/5", "signs 1", "signs x", "sign",
                "SIGNS", " signs", "signs ", "least 1", "Least", "undo 1", "undo undo", "Undo", "redo", "x", "+", "1",
                "None", "handles"):
            self.check(desk, command, InvalidCommand, {})
            self.check(Desk(), command, InvalidCommand, {})

    def test_any_value_at_all(self):
        for desk in (Desk(), begun()):
            for thing in support.no_values() + [1, 0, (1, 2), ["signs"], ("signs",), desk, desk.live, support.deep(8)]:
                self.check(desk, thing, InvalidCommand, {})

    def test_without_a_drawing(self):
        desk = Desk()
        for command in ("pull 0 1", "mark 1", "unmark 1", "value 0", "signs", "least", "undo", "pull 99 1", "value 7"):
            self.check(desk, command, InvalidCommand, {})
        self.check(desk, "bend x", InvalidText, {"at": 0})
        self.check(desk, "bend 2 marks 0 2 handles 1 1", InvalidBend, {"word": "handles"})
        for command in ("signs", "undo"):
            self.check(desk, command, InvalidCommand, {})
        self.assertEqual(desk.say(BEGIN), "3")

    def test_wrong_bends(self):
        for desk in (Desk(), begun()):
            for command in ("bend x", "bend bend", "bend 2", "bend 2 marks 0 2", "bend 2 marks 0 2 handles", "bend \t",
                            "bend 2 marks 0 2 handles 1 -1 2/2", "bend 02 marks 0 2 handles 1 -1 1",
                            "bend 2 marks 0 2 handles 1 -1 -0", "bend 2 handles 1 1 1 marks 0 2", BEGIN + " marks",
                            "bend -2 marks 0 2 handles 1 1 1", "bend 2 marks 0 2 handles 1 -1 1234567890"):
                self.check(desk, command, InvalidText, {"at": 0})
            for command, word in (
                    ("bend 2 marks 0 0 handles 1 1 1", "marks"), ("bend 2 marks 2 0 handles 1 1 1", "marks"),
                    ("bend 0 marks 0 1 2 handles 1 1", "marks"), ("bend 1 marks 0 1 1 2 handles 1 1 1 1", "marks"),
                    ("bend 2 marks 0 handles 1 1", "marks"), ("bend 2 marks 0 2 handles 1 1", "handles"),
                    ("bend 2 marks 0 2 handles 1 1 1 1", "handles"), ("bend 0 marks 1/2 1/3 handles 1 1 1", "marks")):
                self.check(desk, command, InvalidBend, {"word": word})

    def test_errors_of_the_drawing(self):
        desk = begun("bend 1 marks 0 1 2 handles 0 1 0")
        desk.say("pull 1 2")
        for command, kind, kept in (
                ("pull 3 1", Refused, {"at": 3}), ("pull 99 1/2", Refused, {"at": 3}),
                ("mark 1", InvalidTime, {"time": (1, 1)}), ("mark 0", InvalidTime, {"time": (0, 1)}), ("mark 2",
                InvalidTime, {"time": (2, 1)}), ("mark -1/2", InvalidTime, {"time": (-1, 2)}), ("mark 5/2",
                InvalidTime, {"time": (5, 2)}), ("unmark 0", NoMark, {"time": (0, 1)}), ("unmark 1/2",
                NoMark, {"time": (1, 2)}), ("unmark 7", NoMark, {"time": (7, 1)}), ("value 3",
                InvalidTime, {"time": (3, 1)}), ("value -1", InvalidTime, {"time": (-1, 1)}),
                ("value 999999999/2", InvalidTime, {"time": (999999999, 2)})):
            self.check(desk, command, kind, kept)
        flat = begun("bend 0 marks 0 2 handles 5")
        self.check(flat, "mark 1", InvalidTime, {"time": (1, 1)})
        self.check(flat, "unmark 1", NoMark, {"time": (1, 1)})

    def test_not_iterable(self):
        with self.assertRaises(TypeError):
            list(begun())

    def test_by_name(self):
        self.assertEqual(begun().say(command="signs"), "+0+")


if __name__ == "__main__":
    unittest.main()
