"""Point [4]: a state is reckoned once in a call, so the widest nets take no long wait."""

import subprocess
import sys
import unittest
from pathlib import Path

ROOT = Path(__file__).resolve().parent.parent
# All plays of twelve sides, one by one, would take hours; each call takes well under a second.
SECONDS = 60

WIDEST = {
    "square": "(4, [(-1, b) for b in (0, 0, 1, 1, 2, 2, 3, 3)] + [(0, 1), (0, 2), (1, 3), (2, 3)])",
    "alike": "(1, [(-1, 0)] * 12)",
    "nine": "(9, [(-1, b) for b in range(4)] + [(b, b + 1) for b in range(8)])",
}


class Waits(unittest.TestCase):
    def told(self, net, call):
        code = f"from boxclose.worths import *\nfrom boxclose.lines import *\nnet = {net}\nprint({call})"
        done = subprocess.run([sys.executable, "-c", code], cwd=ROOT, capture_output=True, text=True,
                              timeout=SECONDS, check=True)
        return done.stdout.strip()

    def test_worth(self):
        self.assertEqual(self.told(WIDEST["square"], "worth(net, [])"), "2")
        self.assertEqual(self.told(WIDEST["alike"], "worth(net, [])"), "-1")
        self.assertEqual(self.told(WIDEST["nine"], "worth(net, [])"), "5")

    def test_best(self):
        self.assertEqual(self.told(WIDEST["square"], "best(net, [])"), "[0, 1, 2, 3, 4, 5, 6, 7]")
        self.assertEqual(self.told(WIDEST["alike"], "best(net, [])"), str(list(range(12))))

    def test_best_plays(self):
        self.assertEqual(self.told(WIDEST["square"], "best_plays(net, [])"), "327168")
        self.assertEqual(self.told(WIDEST["alike"], "best_plays(net, [])"), "479001600")

    def test_play_by(self):
        self.assertEqual(self.told(WIDEST["alike"], "play_by(net, [], 479001599)"), str(list(range(11, -1, -1))))
        self.assertEqual(self.told(WIDEST["square"], "len(play_by(net, [], 327167))"), "12")


if __name__ == "__main__":
    unittest.main()
