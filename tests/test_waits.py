"""Points [4] and [8]: the widest nets and endings take no long wait."""

import subprocess
import sys
import unittest
from pathlib import Path

ROOT = Path(__file__).resolve().parent.parent
# All plays of twelve sides, one by one, would take hours; each call takes well under a second.
SECONDS = 60

WIDEST = {
    "square": "(4, [(-1, b) for b in (0, 0, 1, 1, 2, 2, 3, 3)] + [(0, 1), (0, 2), (1, 3), (2, 3)])",
    "alike": "(1, [(-1, 0)] * 12)",
    "nine": "(9, [(-1, b) for b in range(4)] + [(b, b + 1) for b in range(8)])",
}


class Waits(unittest.TestCase):
    def told(self, net, call):
        files = ("worths", "lines", "answers", "plans", "endings")
        imports = "".join(f"from boxclose.{file} import *\n" for file in files)
        code = f"{imports}net = {net}\nprint({call})"
        done = subprocess.run([sys.executable, "-c", code], cwd=ROOT, capture_output=True, text=True,
                              timeout=SECONDS, check=True)
        return done.stdout.strip()

    def test_worth(self):
        self.assertEqual(self.told(WIDEST["square"], "worth(net, [])"), "2")
        self.assertEqual(self.told(WIDEST["alike"], "worth(net, [])"), "-1")
        self.assertEqual(self.told(WIDEST["nine"], "worth(net, [])"), "5")

    def test_best(self):
        self.assertEqual(self.told(WIDEST["square"], "best(net, [])"), "[0, 1, 2, 3, 4, 5, 6, 7]")
        self.assertEqual(self.told(WIDEST["alike"], "best(net, [])"), str(list(range(12))))

    def test_best_plays(self):
        self.assertEqual(self.told(WIDEST["square"], "best_plays(net, [])"), "327168")
        self.assertEqual(self.told(WIDEST["alike"], "best_plays(net, [])"), "479001600")

    def test_play_by(self):
        self.assertEqual(self.told(WIDEST["alike"], "play_by(net, [], 479001599)"), str(list(range(11, -1, -1))))
        self.assertEqual(self.told(WIDEST["square"], "len(play_by(net, [], 327167))"), "12")

    def test_judged_and_shows(self):
        for name, here in (("square", 2), ("alike", -1), ("nine", 5)):
            for least, kind in ((here, "Gets"), (here + 1, "Held")):
                told = self.told(WIDEST[name], f"judged(net, [], {least}).__class__.__name__")
                self.assertEqual(told, kind)
                self.assertEqual(self.told(WIDEST[name], f"judged(net, [], {least}).shows(net, [], {least})"), "True")

    def test_many_needless_pairs(self):
        self.assertEqual(self.told(WIDEST["alike"], "Gets([([0], 1)] * 300000).shows(net, [], 0)"), "False")
        self.assertEqual(self.told(WIDEST["alike"], "Held([([0] * 3000000, 1)]).shows(net, [], 0)"), "False")

    def test_the_greatest_endings(self):
        self.assertEqual(self.told(None, "ending([1000] * 8, [])"), "-7972")
        # 7988 boxes, less 4 for each chain and 8 for each ring, but none for the last one, a chain.
        self.assertEqual(self.told(None, "ending([997, 998, 999, 1000], [997, 998, 999, 1000])"), "-7944")
        self.assertEqual(self.told(None, "openings([], list(range(993, 1001)))"),
                         str([("ring", length) for length in range(993, 1001)]))
        self.assertEqual(self.told(None, "reply('chain', 1000, [997, 998, 999, 1000], [997, 998, 999, 1000])"), "leave")


if __name__ == "__main__":
    unittest.main()
