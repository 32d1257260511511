"""L23: no loop of the package changes what it walks, as tests/loops.py sees it; and that it sees slips."""

import ast
import pathlib
import unittest

import askedtrue
from tests.loops import slips

FOLDER = pathlib.Path(askedtrue.__file__).parent

# Each with the rows that are to be told; what stands in the last ones is right.
SNIPPETS = (
    ("""
def by_another_name(events, start):
    plays = [start]
    for event in events:
        rest = []
        for play in plays:
            rest.append(play)
        plays = rest
""", [7]),
    ("""
def an_item_of_a_dict(left, end):
    parts = {}
    for told in left.get(end, []):
        parts.setdefault(told, []).append(told)
    return [{**left, end: part} for part in parts.values()]
""", [5]),
    ("""
def itself(rows, table, heap, box):
    for row in rows:
        rows.append(row)
    for at, row in enumerate(rows):
        rows[at] = row
    for key, value in table.items():
        del table[key]
    for one, other in zip(rows, heap):
        heappush(heap, one)
    for row in box.rows:
        box.rows.remove(row)
    for row in rows if table else heap:
        heap.pop()
    for row in table or rows:
        rows += [row]
    return [rows.pop() for row in rows]
""", [4, 6, 8, 10, 12, 14, 16, 17]),
    ("""
def by_a_choice(rows, table):
    other = rows if rows else table
    for row in rows:
        other.append(row)
    for mark in table["a"]:
        found = table["b"]
        found.append(mark)
""", [5, 8]),
    ("""
def right(rows, table):
    found = []
    for row in rows:
        found.append(row)
        table[row] = 1
    for row in list(rows):
        rows.remove(row)
    for key in sorted(table):
        del table[key]
    for told in list(table.get("a", [])):
        table.setdefault(told, []).append(told)
    rows = [row for row in rows if row]
    while rows:
        rows.pop()
""", []),
)


class Loops(unittest.TestCase):
    def test_slips_are_seen(self):
        for text, rows in SNIPPETS:
            self.assertEqual(slips(ast.parse(text)), rows, text)

    def test_the_package_has_none(self):
        for path in sorted(FOLDER.rglob("*.py")):
            self.assertEqual(slips(ast.parse(path.read_text(encoding="utf-8"))), [], path.name)
