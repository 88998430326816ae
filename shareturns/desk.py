"""The calls of one list, read one behind another, and their answers."""

from shareturns.calls import DEED_OF, Desk, NUMBERS_OF, ROWS_OF


def answers(calls):
    desk = Desk()
    told = []
    at = 0
    while at < len(calls):
        call = calls[at]
        row_at = at + 1 + NUMBERS_OF[call]
        numbers = calls[at + 1:row_at]
        row = []
        at = row_at
        if ROWS_OF[call] == 1:
            at = row_at + 1 + calls[row_at]
            row = calls[row_at + 1:at]
        act = DEED_OF[call]
        answer = act(desk, numbers, row)
        told.append(len(answer))
        told.extend(answer)
    return told
