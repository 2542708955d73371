"""A test case whose tests fail, instead of going on for ever, when the program is too slow."""

import signal
import unittest

SECONDS = 20


class SoonCase(unittest.TestCase):
    def setUp(self):
        signal.signal(signal.SIGALRM, self._too_late)
        signal.alarm(SECONDS)
        self.addCleanup(signal.alarm, 0)

    def _too_late(self, _number, _frame):
        self.fail(f"not told within {SECONDS} seconds")
