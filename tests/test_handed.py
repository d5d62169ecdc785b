"""Point 1: what is handed in stays as it is and is not kept, and the lists told are the asker's own."""

import copy
import unittest

from coinrows import boards, errors, field, notes, rows, shapes

FULL = list(range(40))
SQUARE = [(x, y) for x in range(4) for y in range(4)]
M3 = ("most", 3)
J2 = ("just", 2)
R5 = ("run", 5)

# Each call with what is handed in; refused ones too, as these must leave it alone as well.
ASKS = (
    (rows.turns, M3, [0, 2, 5]), (rows.turns, J2, [1, 39]), (rows.turns, R5, FULL), (rows.turns, M3, []),
    (rows.turns, M3, [2, 1]), (rows.turns, ("", 1), [3]),
    (rows.allows, M3, [0, 2, 5], [1, 5]), (rows.allows, J2, [0, 2, 5], [5]), (rows.allows, R5, [4], [4, 3]),
    (rows.allows, R5, [4, 4], [4]),
    (rows.after, M3, [0, 2, 5], [0, 1, 5]), (rows.after, J2, [3], [0, 3]), (rows.after, R5, [6], [4, 5, 6]),
    (rows.after, M3, [0, 2, 5], [5, 1]), (rows.after, M3, [9, 2], [2]), (rows.after, M3, [1], [1]),
    (rows.number_of, M3, 39), (rows.number_of, R5, -1),
    (rows.value, M3, [0, 7, 8]), (rows.value, J2, FULL), (rows.value, R5, [40]),
    (rows.reply, M3, [0, 7, 9]), (rows.reply, J2, [5, 6, 8]), (rows.reply, R5, [3, 9]), (rows.reply, M3, []),
    (rows.reply, M3, [5, 1]),
    (boards.board_allows, M3, J2, SQUARE, [1, 2], [0, 3]), (boards.board_allows, R5, M3, SQUARE, [3, 2], [1]),
    (boards.board_allows, R5, M3, [(1, 1), (1, 0)], [1], [1]),
    (boards.board_after, M3, J2, SQUARE, [1, 2], [0, 3]), (boards.board_after, R5, R5, [(2, 2)], [1, 2], [1, 2]),
    (boards.board_after, M3, M3, SQUARE, [3, 1], [2]), (boards.board_after, M3, M3, [(9, 9), (0, 0)], [0], [0]),
    (boards.board_number, M3, R5, 15, 3), (boards.board_number, M3, R5, 16, 3),
    (boards.board_value, M3, R5, SQUARE), (boards.board_value, M3, R5, [(0, 1), (0, 0)]),
    (boards.board_reply, M3, M3, [(2, 2)]), (boards.board_reply, J2, J2, [(3, 3), (4, 4)]),
    (boards.board_reply, R5, M3, SQUARE[1:]), (boards.board_reply, M3, M3, []),
    (boards.board_reply, M3, M3, [(0, 16)]),
    (notes.shown, [0, 3], 6), (notes.shown, [3, 0], 6), (notes.shown, [], 0),
    (notes.read, "o..o"), (notes.read, ""), (notes.read, "x"),
)


def answer(call, handed):
    try:
        return call(*handed)
    except errors.CoinError as refusal:
        return type(refusal)


def lists_within(told):
    found = []
    if isinstance(told, (list, tuple)):
        for part in told:
            found.extend(lists_within(part))
    if isinstance(told, list):
        found.append(told)
    return found


def spoil(told):
    for found in lists_within(told):
        found.clear()
        found.extend([77, 5, 77])


class HandedTest(unittest.TestCase):
    def test_every_function_of_the_interface_is_asked(self):
        asked = {ask[0].__name__ for ask in ASKS}
        self.assertEqual(asked, {
            "turns", "allows", "after", "number_of", "value", "reply", "board_allows", "board_after",
            "board_number", "board_value", "board_reply", "shown", "read",
        })

    def test_what_is_handed_in_stays_as_it_is(self):
        for call, *handed in ASKS:
            handed = copy.deepcopy(handed)
            before = copy.deepcopy(handed)
            told = answer(call, handed)
            self.assertEqual(handed, before, call.__name__)
            spoil(told)
            self.assertEqual(handed, before, call.__name__)

    def test_nothing_that_is_handed_in_is_kept(self):
        for call, *handed in ASKS:
            first_handed = copy.deepcopy(handed)
            told = answer(call, first_handed)
            before = copy.deepcopy(told)
            spoil(first_handed)
            self.assertEqual(told, before, call.__name__)
            self.assertEqual(answer(call, copy.deepcopy(handed)), before, call.__name__)

    def test_lists_that_are_told_are_new_each_time(self):
        for call, *handed in ASKS:
            handed = copy.deepcopy(handed)
            first = answer(call, handed)
            before = copy.deepcopy(first)
            second = answer(call, handed)
            self.assertEqual(second, before, call.__name__)
            every = lists_within(first) + lists_within(second) + lists_within(handed)
            self.assertEqual(len({id(found) for found in every}), len(every), call.__name__)
            spoil(first)
            self.assertEqual(second, before, call.__name__)
            self.assertEqual(answer(call, handed), before, call.__name__)

    def test_no_two_lists_of_one_answer_are_the_same(self):
        for rule in (M3, J2, R5):
            told = rows.turns(rule, FULL)
            self.assertEqual(len({id(turn) for turn in told}), len(told))
            told[0].append(99)
            self.assertTrue(all(99 not in turn for turn in told[1:]))

    def test_the_two_lists_of_a_reply_to_a_board(self):
        for rule in (M3, J2, R5, ("most", 1), ("just", 1), ("run", 1)):
            for place in (1, 2, 15):
                xs, ys = boards.board_reply(rule, rule, [(place, place)])
                self.assertEqual(xs, ys)
                self.assertIsNot(xs, ys)
                xs.append(99)
                self.assertNotIn(99, ys)

    def test_no_module_keeps_anything_from_call_to_call(self):
        def held():
            return [
                {
                    name: copy.deepcopy(found) for name, found in vars(module).items()
                    if not name.startswith("__") and not callable(found)
                }
                for module in (boards, errors, field, notes, rows, shapes)
            ]

        before = held()
        for call, *handed in ASKS:
            answer(call, copy.deepcopy(handed))
        self.assertEqual(held(), before)


class InterfaceTest(unittest.TestCase):
    def test_arguments_bear_the_names_of_the_interface(self):
        self.assertEqual(rows.turns(rule=M3, heads=[0]), [[0]])
        self.assertIs(rows.allows(rule=M3, heads=[0], turn=[0]), True)
        self.assertEqual(rows.after(rule=M3, heads=[0], turn=[0]), [])
        self.assertEqual(rows.number_of(rule=M3, place=3), 7)
        self.assertEqual(rows.value(rule=M3, heads=[3]), 7)
        self.assertEqual(rows.reply(rule=M3, heads=[3]), [3])
        self.assertIs(boards.board_allows(rule_x=M3, rule_y=M3, heads=[(0, 1)], xs=[0], ys=[1]), True)
        self.assertEqual(boards.board_after(rule_x=M3, rule_y=M3, heads=[(0, 1)], xs=[0], ys=[1]), [])
        self.assertEqual(boards.board_number(rule_x=M3, rule_y=J2, x=1, y=2), 3)
        self.assertEqual(boards.board_value(rule_x=M3, rule_y=J2, heads=[(1, 2)]), 3)
        self.assertEqual(boards.board_reply(rule_x=M3, rule_y=M3, heads=[(0, 0)]), ([0], [0]))
        self.assertEqual(notes.shown(heads=[1], size=3), ".o.")
        self.assertEqual(notes.read(text=".o."), [1])


if __name__ == "__main__":
    unittest.main()
