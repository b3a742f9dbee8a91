"""Watching how deep functions call themselves."""

import sys


def deepest_calls(action):
    """The greatest number of calls of one function that were open at once while the action ran."""
    open_calls, deepest = {}, [0]

    def watch(frame, event, _):
        if event == "call":
            open_calls[frame.f_code] = open_calls.get(frame.f_code, 0) + 1
            deepest[0] = max(deepest[0], open_calls[frame.f_code])
        elif event == "return":
            open_calls[frame.f_code] = open_calls.get(frame.f_code, 0) - 1

    sys.setprofile(watch)
    try:
        action()
    finally:
        sys.setprofile(None)
    return deepest[0]
