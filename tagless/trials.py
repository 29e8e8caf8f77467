"""Trials: blocks behind which a shelf is as it was ahead of them, unless what was done there is kept."""


class Frame:
    """How a shelf was ahead of a trial, and the frame of the trial around it, if there is one."""

    def __init__(self, outer, done, undone):
        self.outer = outer
        self.done = done
        self.undone = undone
        self.kept = None


class Trial:
    """What a block with a trial of a shelf is entered and left by."""

    def __init__(self, held):
        self._held = held

    def __enter__(self):
        held = self._held
        held._frame = Frame(held._frame, held._done, held._undone)
        return held

    def __exit__(self, kind, value, trace):
        if kind is not None or self._held._frame.kept is None:
            self._held._done = self._held._frame.done
            self._held._undone = self._held._frame.undone
        self._held._frame = self._held._frame.outer
