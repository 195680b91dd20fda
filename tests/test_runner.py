"""Points 20 to 27: letters, receipts, and ends that run, with journal, flush, fall and checkpoint."""

import copy
import random
import unittest

from helpers import END, MOST, SlowRun, SlowRunner, steps, talk
from onescore.errors import UnknownEnd
from onescore.flat import Score, read_score
from onescore.runner import Runner
from onescore.tables import end_tables


def runner(text, name, *inputs):
    """The runner of an end of the score of a text."""
    score = read_score(text)
    return Runner(score.ends, name, end_tables(score)[name], list(inputs))


def letter(sender, receiver, number, label, value):
    return ("letter", sender, receiver, number, label, value)


def receipt(sender, receiver, count):
    return ("receipt", sender, receiver, count)


def looks(one, others):
    """All that can be seen of a runner."""
    return (one.outgoing(), one.journal(), one.has_ended(), one.deeds(), one.variables(),
            [one.unreceipted(other) for other in others])


GETS = "ends a, b, c play { " + "".join("b -> a: k(0) as x " for _ in range(4)) + "a -> c: l(x) as x }"
# a sends something before and behind each of two letters that it gets.
TURNS = ("ends a, b, c play { a -> b: k(1) as x a -> c: k(2) as x b -> a: l(3) as x a -> b: m(4) as x "
         "a -> c: m(5) as x c -> a: n(6) as x a -> b: o(7) as x a -> c: o(8) as x }")


class Steps(unittest.TestCase):
    def test_each_kind_of_deed(self):
        one = runner("ends a, b play { a asks n a sets m = n - 6 a -> b: k(m) as x if a: m { a sets q = 4 } else { } "
                     "if b: x { b -> a: l(0) as v } else { b -> a: m(0) as w } while a: v { a sets v = v - 1 } }",
                     "a", 5)
        self.assertEqual(one.step(), ("ask", "a", "n", 5))
        self.assertEqual(one.step(), ("set", "a", "m", MOST))
        self.assertEqual(one.step(), ("send", "a", "b", "k", MOST))
        self.assertEqual(one.step(), ("if", "a", "yes"))
        self.assertEqual(one.step(), ("set", "a", "q", 4))
        self.assertIsNone(one.step())
        self.assertIs(one.has_ended(), False)
        one.deliver(letter("b", "a", 0, "l", 1))
        self.assertEqual(steps(one), [("get", "a", "b", "l", 1), ("while", "a", 8, "yes"), ("set", "a", "v", 0),
                                      ("while", "a", 8, "no")])
        self.assertIs(one.has_ended(), True)
        self.assertIsNone(one.step())
        self.assertEqual(one.variables(), {"n": 5, "m": MOST, "q": 4, "v": 0})
        self.assertEqual(one.deeds()[2:6], [("send", "a", "b", "k", MOST), ("if", "a", "yes"), ("set", "a", "q", 4),
                                            ("get", "a", "b", "l", 1)])
        self.assertEqual(len(one.deeds()), 9)

    def test_the_other_way(self):
        one = runner("ends a, b play { a asks n if a: n { a -> b: k(1) as x } else { a -> b: l(2) as x } while a: n "
                     "{ a asks n } a asks m }", "a", 0)
        self.assertEqual(steps(one), [("ask", "a", "n", 0), ("if", "a", "no"), ("send", "a", "b", "l", 2),
                                      ("while", "a", 4, "no"), ("ask", "a", "m", 0)])

    def test_inputs_that_run_out(self):
        one = runner("ends a play { a asks x a asks y a asks x a asks z }", "a", 4, 5)
        self.assertEqual([deed[3] for deed in steps(one)], [4, 5, 0, 0])
        self.assertEqual(one.variables(), {"x": 0, "y": 5, "z": 0})

    def test_a_while_is_answered_no_after_eight_yes(self):
        one = runner("ends a play { while a: 1 { a sets x = x + 1 } a sets y = x }", "a")
        self.assertEqual([deed[-1] for deed in steps(one)], ["yes", 1, "yes", 2, "yes", 3, "yes", 4, "yes", 5,
                                                             "yes", 6, "yes", 7, "yes", 8, "no", 8])
        one = runner("ends a play { while a: n < 2 { while a: 1 { a sets m = m + 1 } a sets n = n + 1 } }", "a")
        steps(one)
        self.assertEqual(one.variables(), {"m": 16, "n": 2})

    def test_the_choices_of_a_get(self):
        text = "ends a, b play { if b: 1 { b -> a: k(0) as x } else { b -> a: l(0) as y a asks z } }"
        for label, variables in (("k", {"x": 9}), ("l", {"y": 9, "z": 3})):
            one = runner(text, "a", 3)
            one.deliver(letter("b", "a", 0, label, 9))
            steps(one)
            self.assertEqual((one.variables(), one.has_ended()), (variables, True))

    def test_nothing_to_do(self):
        one = Runner(("a", "b"), "b", (END,), [1])
        self.assertIs(one.has_ended(), True)
        self.assertIsNone(one.step())
        self.assertEqual(looks(one, "a"), ([], [], True, [], {}, [0]))

    def test_letters_have_numbers_for_each_two_ends(self):
        one = runner("ends a, b, c play { a -> b: k(1) as x a -> c: k(2) as x a -> b: l(3) as x a -> b: k(4) as x "
                     "a -> c: m(5) as x }", "a")
        steps(one)
        self.assertEqual(one.outgoing(), [
            letter("a", "b", 0, "k", 1), letter("a", "b", 1, "l", 3), letter("a", "b", 2, "k", 4),
            letter("a", "c", 0, "k", 2), letter("a", "c", 1, "m", 5)])


class Letters(unittest.TestCase):
    def test_letters_that_come_too_early_and_in_another_order(self):
        one = runner(GETS, "a")
        for number in (3, 1):
            one.deliver(letter("b", "a", number, "k", 10 + number))
        self.assertIsNone(one.step())
        one.deliver(letter("b", "a", 0, "k", 10))
        self.assertEqual([deed[4] for deed in steps(one)], [10, 11])
        one.deliver(letter("b", "a", 2, "k", 12))
        self.assertEqual([deed[4] for deed in steps(one)], [12, 13, 13])
        self.assertEqual(one.journal(), [("took", "b", "k", 10 + number) for number in range(4)])

    def test_letters_that_come_twice_and_too_late(self):
        one = runner(GETS, "a")
        for number in (0, 0, 1, 0, 1):
            one.deliver(letter("b", "a", number, "k", number))
        self.assertEqual([deed[4] for deed in steps(one)], [0, 1])
        for number in (0, 1, 0):
            one.deliver(letter("b", "a", number, "k", number))
        self.assertIsNone(one.step())
        self.assertEqual(len(one.journal()), 2)
        one.deliver(letter("b", "a", 2, "k", 2))
        self.assertEqual([deed[4] for deed in steps(one)], [2])

    def test_letters_for_another_end(self):
        one = runner(GETS, "a")
        one.deliver(letter("b", "c", 0, "k", 1))
        one.deliver(letter("a", "b", 0, "k", 1))
        self.assertIsNone(one.step())

    def test_letters_of_another_end(self):
        one = runner(GETS, "a")
        one.deliver(letter("c", "a", 0, "k", 1))
        self.assertIsNone(one.step())
        one.deliver(letter("b", "a", 0, "k", 2))
        self.assertEqual(one.step(), ("get", "a", "b", "k", 2))
        self.assertIsNone(one.step())

    def test_letters_of_no_end_and_of_itself(self):
        one = runner(GETS, "a")
        for sender in ("d", "a"):
            one.deliver(letter(sender, "a", 0, "k", 1))
            one.deliver(receipt(sender, "a", 1))
        self.assertIsNone(one.step())

    def test_a_label_that_a_get_does_not_have(self):
        one = runner(GETS, "a")
        one.deliver(letter("b", "a", 0, "zz", 1))
        self.assertIsNone(one.step())
        self.assertEqual((one.journal(), one.deeds(), one.variables()), ([], [], {}))

    def test_letters_of_two_ends_do_not_mix(self):
        one = runner("ends a, b, c play { b -> a: k(0) as x c -> a: k(0) as x b -> a: k(0) as x }", "a")
        for sender, number, value in (("c", 0, 20), ("b", 1, 11), ("b", 0, 10)):
            one.deliver(letter(sender, "a", number, "k", value))
        self.assertEqual([deed[2:] for deed in steps(one)], [("b", "k", 10), ("c", "k", 20), ("b", "k", 11)])

    def test_deliver_returns_nothing(self):
        one = runner(TURNS, "a")
        self.assertIsNone(one.deliver(letter("b", "a", 0, "l", 3)))
        self.assertIsNone(one.deliver(receipt("b", "a", 1)))
        self.assertIsNone(one.deliver(receipt("a", "b", 1)))


class Receipts(unittest.TestCase):
    def sender(self):
        one = runner("ends a, b, c play { " + "a -> b: k(n) as x a sets n = n + 1 " * 4 + "a -> c: k(9) as x "
                     "b -> a: go(0) as y a -> b: l(7) as x }", "a")
        steps(one)
        return one

    def numbers(self, one, other="b"):
        return [item[3] for item in one.outgoing() if item[:3] == ("letter", "a", other)]

    def test_letters_are_removed(self):
        one = self.sender()
        self.assertEqual((self.numbers(one), one.unreceipted("b"), one.unreceipted("c")), ([0, 1, 2, 3], 4, 1))
        one.deliver(receipt("b", "a", 2))
        self.assertEqual((self.numbers(one), one.unreceipted("b"), one.unreceipted("c")), ([2, 3], 2, 1))
        one.deliver(receipt("b", "a", 3))
        self.assertEqual((self.numbers(one), one.unreceipted("b")), ([3], 1))
        one.deliver(receipt("c", "a", 1))
        self.assertEqual((self.numbers(one), self.numbers(one, "c"), one.unreceipted("c")), ([3], [], 0))
        one.deliver(receipt("b", "a", 4))
        self.assertEqual((one.outgoing(), one.unreceipted("b")), ([], 0))

    def test_receipts_that_are_older_than_others(self):
        one = self.sender()
        for count, left in ((0, 4), (3, 1), (1, 1), (3, 1), (2, 1), (0, 1), (4, 0), (3, 0)):
            one.deliver(receipt("b", "a", count))
            self.assertEqual(one.unreceipted("b"), left)

    def test_a_receipt_for_more_letters_than_were_sent(self):
        one = self.sender()
        one.deliver(receipt("b", "a", 100))
        self.assertEqual((one.outgoing(), one.unreceipted("b")), ([letter("a", "c", 0, "k", 9)], 0))
        one.deliver(letter("b", "a", 0, "go", 0))
        self.assertEqual(steps(one), [("get", "a", "b", "go", 0), ("send", "a", "b", "l", 7)])
        one.flush()
        # What a receipt removes are the letters that are there: this one came behind it.
        self.assertEqual(self.numbers(one), [4])
        self.assertEqual(one.unreceipted("b"), 1)
        for count in (5, 100):
            one.deliver(receipt("b", "a", count))
            self.assertEqual(one.unreceipted("b"), 1)
        one.deliver(receipt("b", "a", 101))
        self.assertEqual(one.unreceipted("b"), 0)

    def test_receipts_for_another_end(self):
        one = self.sender()
        one.deliver(receipt("b", "c", 4))
        one.deliver(receipt("a", "b", 4))
        one.deliver(receipt("c", "b", 1))
        self.assertEqual((self.numbers(one), self.numbers(one, "c")), ([0, 1, 2, 3], [0]))

    def test_other_ends(self):
        one = self.sender()
        for name in ("d", "", "A", "aa"):
            with self.assertRaises(UnknownEnd):
                one.unreceipted(name)
        with self.assertRaises(UnknownEnd):
            one.unreceipted("a")
        self.assertEqual(one.unreceipted("b"), 4)


class Leaving(unittest.TestCase):
    def test_before_and_behind_flush(self):
        one = runner(TURNS, "a")
        first = [letter("a", "b", 0, "k", 1), letter("a", "c", 0, "k", 2)]
        steps(one)
        self.assertEqual(one.outgoing(), first)
        one.deliver(letter("b", "a", 0, "l", 3))
        self.assertEqual(len(steps(one)), 3)
        self.assertEqual(one.outgoing(), first)
        self.assertEqual((one.unreceipted("b"), one.unreceipted("c")), (2, 2))
        self.assertIsNone(one.flush())
        self.assertEqual(one.outgoing(), [
            first[0], letter("a", "b", 1, "m", 4), receipt("a", "b", 1), first[1], letter("a", "c", 1, "m", 5)])
        one.deliver(letter("c", "a", 0, "n", 6))
        steps(one)
        self.assertEqual(one.outgoing(), [
            first[0], letter("a", "b", 1, "m", 4), receipt("a", "b", 1), first[1], letter("a", "c", 1, "m", 5)])
        one.flush()
        self.assertEqual(one.outgoing(), [
            first[0], letter("a", "b", 1, "m", 4), letter("a", "b", 2, "o", 7), receipt("a", "b", 1),
            first[1], letter("a", "c", 1, "m", 5), letter("a", "c", 2, "o", 8), receipt("a", "c", 1)])

    def test_a_flush_in_between(self):
        one = runner(TURNS, "a")
        one.deliver(letter("b", "a", 0, "l", 3))
        one.deliver(letter("c", "a", 0, "n", 6))
        for _ in range(3):
            one.step()
        one.flush()
        steps(one)
        self.assertEqual([item[3] for item in one.outgoing() if item[0] == "letter"], [0, 1, 0, 1])
        self.assertEqual([item for item in one.outgoing() if item[0] == "receipt"], [receipt("a", "b", 1)])

    def test_receipts_tell_what_lasts(self):
        one = runner(GETS, "a")
        for number in range(4):
            one.deliver(letter("b", "a", number, "k", number))
        one.flush()
        self.assertEqual(one.outgoing(), [])
        for number in range(3):
            one.step()
            self.assertEqual(one.outgoing(), [receipt("a", "b", number)] if number else [])
            one.flush()
            self.assertEqual(one.outgoing(), [receipt("a", "b", number + 1)])
        one.step()
        one.checkpoint()
        self.assertEqual(one.outgoing(), [receipt("a", "b", 4)])
        steps(one)
        self.assertEqual(one.outgoing(), [receipt("a", "b", 4), letter("a", "c", 0, "l", 3)])

    def test_the_order_of_the_ends(self):
        one = runner("ends d, a, c, b play { a -> b: k(1) as x a -> c: k(2) as x a -> d: k(3) as x a -> b: k(4) as x }",
                     "a")
        steps(one)
        self.assertEqual([item[2:4] for item in one.outgoing()], [("d", 0), ("c", 0), ("b", 0), ("b", 1)])


class Falls(unittest.TestCase):
    def behind_three(self):
        one = runner(GETS, "a")
        for number in range(4):
            one.deliver(letter("b", "a", number, "k", number))
        for _ in range(3):
            one.step()
        return one

    def entries(self, many):
        return [("took", "b", "k", number) for number in range(many)]

    def test_entries_that_are_lost(self):
        for lost, left in ((0, 3), (1, 2), (2, 1), (3, 0), (4, 0), (100, 0)):
            one = self.behind_three()
            self.assertIsNone(one.fall(lost))
            self.assertEqual(one.journal(), self.entries(left))
            self.assertEqual(one.deeds(), [("get", "a", "b", "k", number) for number in range(left)])
            self.assertEqual(one.variables(), {"x": left - 1} if left else {})
            self.assertEqual(one.outgoing(), [receipt("a", "b", left)] if left else [])
            self.assertIs(one.has_ended(), False)

    def test_entries_that_last_are_not_lost(self):
        for lasting in range(4):
            for lost in range(5):
                one = runner(GETS, "a")
                for number in range(3):
                    one.deliver(letter("b", "a", number, "k", number))
                    if number == lasting:
                        one.flush()
                    one.step()
                if lasting == 3:
                    one.flush()
                one.fall(lost)
                left = max(lasting, 3 - lost)
                self.assertEqual(one.journal(), self.entries(left))
                self.assertEqual(len(one.deeds()), left)
                one.fall(100)
                self.assertEqual(one.journal(), self.entries(left))

    def test_the_tray_is_empty(self):
        one = self.behind_three()
        one.fall(0)
        self.assertIsNone(one.step())
        one.deliver(letter("b", "a", 3, "k", 3))
        self.assertEqual(steps(one), [("get", "a", "b", "k", 3), ("send", "a", "c", "l", 3)])

    def test_lost_letters_can_be_taken_again(self):
        one = self.behind_three()
        one.fall(2)
        for number in (2, 1):
            one.deliver(letter("b", "a", number, "k", number))
        self.assertEqual(len(steps(one)), 2)
        self.assertEqual(one.journal(), self.entries(3))

    def test_a_letter_that_was_lost_is_not_older_than_the_letters_taken(self):
        one = self.behind_three()
        one.fall(3)
        one.deliver(letter("b", "a", 0, "k", 0))
        self.assertEqual(one.step(), ("get", "a", "b", "k", 0))

    def test_all_deeds_up_to_the_next_get_are_done_again(self):
        one = runner(TURNS, "a")
        one.fall(0)
        self.assertEqual(one.deeds(), [("send", "a", "b", "k", 1), ("send", "a", "c", "k", 2)])
        one.deliver(letter("b", "a", 0, "l", 3))
        one.step()
        one.fall(0)
        self.assertEqual(len(one.deeds()), 5)
        self.assertEqual(one.outgoing(), [
            letter("a", "b", 0, "k", 1), letter("a", "b", 1, "m", 4), receipt("a", "b", 1),
            letter("a", "c", 0, "k", 2), letter("a", "c", 1, "m", 5)])

    def test_a_fall_goes_on_to_the_end(self):
        one = runner("ends a, b play { b -> a: k(0) as x a asks y a -> b: l(x + y) as z }", "a", 30)
        one.deliver(letter("b", "a", 0, "k", 4))
        one.step()
        one.fall(0)
        self.assertIs(one.has_ended(), True)
        self.assertEqual(one.deeds()[2], ("send", "a", "b", "l", 34))
        self.assertIsNone(one.step())

    def test_inputs_are_used_again(self):
        one = runner("ends a, b play { a asks x b -> a: k(0) as v a asks y b -> a: k(0) as v a asks z }", "a", 5, 6)
        one.step()
        one.deliver(letter("b", "a", 0, "k", 0))
        steps(one)
        one.fall(1)
        self.assertEqual(one.variables(), {"x": 5})
        one.deliver(letter("b", "a", 0, "k", 0))
        one.deliver(letter("b", "a", 1, "k", 0))
        steps(one)
        self.assertEqual(one.variables(), {"x": 5, "v": 0, "y": 6, "z": 0})

    def test_letters_that_are_made_again_are_not_receipted(self):
        one = runner(TURNS, "a")
        steps(one)
        one.deliver(receipt("b", "a", 1))
        self.assertEqual(one.outgoing(), [letter("a", "c", 0, "k", 2)])
        one.fall(0)
        self.assertEqual(one.outgoing(), [letter("a", "b", 0, "k", 1), letter("a", "c", 0, "k", 2)])
        self.assertEqual(one.unreceipted("b"), 1)
        one.deliver(receipt("b", "a", 1))
        self.assertEqual(one.unreceipted("b"), 0)

    def test_a_while_across_a_fall(self):
        text = "ends a, b play { while a: 1 { a -> b: k(1) as x b -> a: l(2) as y } a -> b: m(1) as x a sets z = 1 }"
        for at in range(9):
            one = runner(text, "a")
            for number in range(8):
                one.deliver(letter("b", "a", number, "l", number))
            for _ in range(3 * at + 1):
                one.step()
            one.fall(at % 3)
            if at % 2:
                one.fall(0)
            for number in range(8):
                one.deliver(letter("b", "a", number, "l", number))
            steps(one)
            self.assertIs(one.has_ended(), True)
            self.assertEqual([deed[3] for deed in one.deeds() if deed[0] == "while"], ["yes"] * 8 + ["no"])

    def test_a_while_across_a_checkpoint_and_a_fall(self):
        one = runner("ends a, b play { while a: 1 { a -> b: k(1) as x b -> a: l(2) as y } a -> b: m(1) as x }", "a")
        for number in range(8):
            one.deliver(letter("b", "a", number, "l", number))
            steps(one)
            if number == 4:
                one.checkpoint()
        one.fall(1)
        self.assertEqual(len(one.journal()), 2)
        for number in range(8):
            one.deliver(letter("b", "a", number, "l", number))
        steps(one)
        self.assertEqual([deed[3] for deed in one.deeds() if deed[0] == "while"], ["yes"] * 8 + ["no"])


class Checkpoints(unittest.TestCase):
    def test_the_journal_since_the_last_checkpoint(self):
        one = runner(GETS, "a")
        for number in range(4):
            one.deliver(letter("b", "a", number, "k", number))
        one.step()
        one.step()
        self.assertIsNone(one.checkpoint())
        self.assertEqual(one.journal(), [])
        self.assertEqual(one.deeds(), [("get", "a", "b", "k", 0), ("get", "a", "b", "k", 1)])
        one.step()
        self.assertEqual(one.journal(), [("took", "b", "k", 2)])
        one.fall(100)
        self.assertEqual((one.journal(), one.variables(), len(one.deeds())), ([], {"x": 1}, 2))
        self.assertEqual(one.outgoing(), [receipt("a", "b", 2)])
        one.deliver(letter("b", "a", 1, "k", 1))
        self.assertIsNone(one.step())
        one.deliver(letter("b", "a", 2, "k", 2))
        self.assertEqual(one.step(), ("get", "a", "b", "k", 2))
        one.flush()
        one.fall(100)
        self.assertEqual((one.journal(), one.variables(), len(one.deeds())), ([("took", "b", "k", 2)], {"x": 2}, 3))

    def test_the_tray_stays_at_a_checkpoint_and_goes_with_a_fall(self):
        one = runner(GETS, "a")
        for number in range(3):
            one.deliver(letter("b", "a", number, "k", number))
        one.checkpoint()
        self.assertEqual(one.step(), ("get", "a", "b", "k", 0))
        one.checkpoint()
        one.fall(0)
        self.assertIsNone(one.step())
        self.assertEqual(one.deeds(), [("get", "a", "b", "k", 0)])

    def test_all_entries_last(self):
        one = runner(TURNS, "a")
        one.deliver(letter("b", "a", 0, "l", 3))
        steps(one)
        self.assertEqual(len(one.outgoing()), 2)
        one.checkpoint()
        self.assertEqual(one.outgoing(), [
            letter("a", "b", 0, "k", 1), letter("a", "b", 1, "m", 4), receipt("a", "b", 1),
            letter("a", "c", 0, "k", 2), letter("a", "c", 1, "m", 5)])
        one.fall(5)
        self.assertEqual(len(one.outgoing()), 5)
        self.assertEqual(len(one.deeds()), 5)

    def test_what_is_receipted_before_is_not_made_again(self):
        one = runner(TURNS, "a")
        steps(one)
        one.deliver(receipt("b", "a", 1))
        one.checkpoint()
        one.deliver(receipt("c", "a", 1))
        self.assertEqual(one.outgoing(), [])
        one.fall(0)
        self.assertEqual(one.outgoing(), [letter("a", "c", 0, "k", 2)])
        self.assertEqual((one.unreceipted("b"), one.unreceipted("c")), (0, 1))
        one.deliver(letter("b", "a", 0, "l", 3))
        steps(one)
        one.flush()
        # The numbers go on behind the letters that were made before the checkpoint.
        self.assertEqual(one.outgoing()[0], letter("a", "b", 1, "m", 4))

    def test_letters_behind_a_checkpoint_wait_for_the_letters_behind_it(self):
        one = runner(TURNS, "a")
        one.deliver(letter("b", "a", 0, "l", 3))
        one.deliver(letter("c", "a", 0, "n", 6))
        for _ in range(4):
            one.step()
        one.checkpoint()
        steps(one)
        self.assertEqual([item[2:4] for item in one.outgoing()], [("b", 0), ("b", 1), ("b", 1), ("c", 0), ("c", 1)])
        one.fall(1)
        self.assertEqual(len(one.deeds()), 5)
        self.assertEqual([item[2:4] for item in one.outgoing()], [("b", 0), ("b", 1), ("b", 1), ("c", 0), ("c", 1)])

    def test_a_checkpoint_at_once_and_one_at_the_end(self):
        one = runner(TURNS, "a")
        one.checkpoint()
        one.fall(0)
        self.assertEqual(len(one.deeds()), 2)
        for item in (letter("b", "a", 0, "l", 3), letter("c", "a", 0, "n", 6)):
            one.deliver(item)
        steps(one)
        one.checkpoint()
        kept = looks(one, "bc")
        one.fall(7)
        self.assertEqual(looks(one, "bc"), kept)
        self.assertIs(one.has_ended(), True)
        self.assertEqual(one.variables(), {"x": 6})

    def test_the_greatest_receipt_is_held_by_a_checkpoint(self):
        one = runner("ends a, b play { " + "a -> b: k(1) as x " * 3 + "}", "a")
        one.step()
        one.step()
        one.checkpoint()
        one.deliver(receipt("b", "a", 2))
        one.fall(0)
        self.assertEqual(one.unreceipted("b"), 3)
        one.deliver(receipt("b", "a", 1))
        self.assertEqual(one.unreceipted("b"), 2)
        one.deliver(receipt("b", "a", 3))
        one.checkpoint()
        one.fall(0)
        self.assertEqual(one.unreceipted("b"), 0)
        one = runner(TURNS, "a")
        steps(one)
        one.deliver(receipt("b", "a", 9))
        one.checkpoint()
        one.fall(0)
        one.deliver(letter("b", "a", 0, "l", 3))
        steps(one)
        one.deliver(receipt("b", "a", 8))
        self.assertEqual(one.unreceipted("b"), 1)

    def test_inputs_that_were_used_before_a_checkpoint(self):
        one = runner("ends a, b play { a asks x a asks y b -> a: k(0) as v a asks z }", "a", 5, 6, 7)
        one.step()
        one.checkpoint()
        one.fall(0)
        self.assertEqual(one.variables(), {"x": 5, "y": 6})
        one.deliver(letter("b", "a", 0, "k", 0))
        one.step()
        one.fall(0)
        self.assertEqual(one.variables(), {"x": 5, "y": 6, "v": 0, "z": 7})


class Together(unittest.TestCase):
    def cases(self, seeds):
        """Scores with tables, and inputs."""
        for seed in seeds:
            tree, inputs = talk(seed)
            slow = SlowRun(tree, inputs)
            if len(slow.deeds) < 60:
                yield random.Random(seed), Score(tree), inputs, slow

    def test_random_calls_do_what_a_slow_runner_does(self):
        looked = 0
        for rng, score, inputs, slow in self.cases(range(250)):
            tables = end_tables(score)
            pairs = {end: (Runner(score.ends, end, tables[end], inputs[end]),
                           SlowRunner(score.ends, end, tables[end], inputs[end])) for end in score.ends}
            items, forging = [], rng.choice([0, 0, 1])
            for _ in range(60):
                end = rng.choice(score.ends)
                one, other = pairs[end]
                call = rng.choice(["step"] * 3 + ["steps"] * 2 + ["post"] * 3 + ["deliver"] * 9 +
                                  ["flush", "flush", "fall", "checkpoint"] + ["forge"] * forging)
                if call == "step":
                    self.assertEqual(one.step(), other.step())
                elif call == "steps":
                    self.assertEqual(steps(one), steps(other))
                elif call == "post":
                    items += one.outgoing()
                elif call == "deliver" and items:
                    item = rng.choice(items[-8:]) if rng.random() < 0.8 else rng.choice(items)
                    for received in pairs[rng.choice([item[2]] * 9 + [end])]:
                        received.deliver(item)
                elif call == "forge":
                    item = receipt(rng.choice([name for name in score.ends if name != end]), end, rng.randint(0, 4))
                    one.deliver(item), other.deliver(item)
                elif call in ("flush", "checkpoint"):
                    getattr(one, call)(), getattr(other, call)()
                elif call == "fall":
                    lost = rng.choice([0, 1, 2, 9])
                    one.fall(lost), other.fall(lost)
                for name, (fast, plain) in pairs.items():
                    others = [other for other in score.ends if other != name]
                    self.assertEqual(looks(fast, others), looks(plain, others))
                    self.assertEqual(tuple(fast.deeds()), slow.rows[name][:len(fast.deeds())])
            looked += all(one.has_ended() for one, _ in pairs.values())
        self.assertGreater(looked, 20)

    def test_what_is_passed_and_returned_is_not_kept(self):
        inputs = [5, 6, 7]
        score = read_score("ends a, b play { a asks x b -> a: k(0) as y a asks x a -> b: l(x) as z a asks x }")
        one = Runner(score.ends, "a", end_tables(score)["a"], inputs)
        inputs.clear()
        inputs.append(99)
        one.deliver(letter("b", "a", 0, "k", 1))
        steps(one)
        one.flush()
        kept = copy.deepcopy(looks(one, "b"))
        self.assertEqual(kept[4], {"x": 7, "y": 1})
        for found in (one.outgoing(), one.journal(), one.deeds(), one.variables()):
            found.clear()
        self.assertEqual(looks(one, "b"), kept)
        one.fall(0)
        self.assertEqual(looks(one, "b"), kept)

    def test_two_runners_share_nothing(self):
        score = read_score(TURNS)
        table = end_tables(score)["a"]
        first, second = (Runner(score.ends, "a", table, []) for _ in range(2))
        kept = looks(second, "bc")
        first.deliver(letter("b", "a", 0, "l", 3))
        steps(first)
        first.checkpoint()
        self.assertEqual(looks(second, "bc"), kept)
        self.assertIsNone(second.fall(0))
        self.assertEqual(len(second.deeds()), 2)


if __name__ == "__main__":
    unittest.main()
