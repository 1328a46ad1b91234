"""README.md's samples answer as it says."""

import ast
import contextlib
import io
import pathlib
import re
import tokenize
import unittest

from markwords.layings import laying_fault

README = pathlib.Path(__file__).resolve().parent.parent / "README.md"
TEXT = README.read_text(encoding="utf-8")
BLOCKS = re.findall(r"^```(\w*)\n(.*?)^```$", TEXT, re.S | re.M)
SAMPLES = "".join(block for head, block in BLOCKS if head == "python")
PLAIN = [block for head, block in BLOCKS if not head]


def remarks_of(source):
    """The remark of each row that has one."""
    return {
        token.start[0]: token.string[1:].strip()
        for token in tokenize.generate_tokens(io.StringIO(source).readline) if token.type == tokenize.COMMENT
    }


def values_said(remark):
    """The value that a remark begins with, up to its end or a ; or a : (in a list; none where it begins with words)."""
    for cut in [len(remark)] + [place for place, sign in enumerate(remark) if sign in ";:"]:
        try:
            return [ast.literal_eval(remark[:cut])]
        except (SyntaxError, ValueError):
            continue
    return []


class Readme(unittest.TestCase):
    def test_samples(self):
        remarks = remarks_of(SAMPLES)
        told = {}

        class Ask(ast.NodeTransformer):
            """Has each value that a row asks for kept beside the row's number."""

            def visit_Expr(self, node):
                asked = ast.Call(ast.Name("keep", ast.Load()), [ast.Constant(node.end_lineno), node.value], [])
                return ast.copy_location(ast.Expr(asked), node)

        tree = ast.fix_missing_locations(Ask().visit(ast.parse(SAMPLES)))
        printed = io.StringIO()
        with contextlib.redirect_stdout(printed):
            exec(compile(tree, "README.md", "exec"), {"keep": told.__setitem__})
        checked = 0
        for row, value in told.items():
            for wanted in values_said(remarks.get(row, "")):
                checked += 1
                self.assertEqual((type(value), value), (type(wanted), wanted), SAMPLES.split("\n")[row - 1])
        # Each sample but those that tell nothing, or a laying that is one of many.
        self.assertEqual(checked, 38)
        self.assertEqual([printed.getvalue()], PLAIN)

    def test_layings_that_are_one_of_many(self):
        samples = [row for row in SAMPLES.split("\n") if "# a right laying" in row]
        self.assertEqual(len(samples), 2)
        names = {}
        exec("from markwords.choices import best, made", names)
        for row in samples:
            self.assertIsNone(laying_fault(eval(row.split("#")[0], names)))

    def test_each_module_and_name_is_told_of(self):
        for name in (
            "PlainStore", "laying_fault", "mark_of", "load_bits", "worth_of", "word_of", "is_small", "rows_of",
            "number_at",
            "size_at", "is_great", "made", "best", "Store", "store_of", "image_fault", "image_of", "opened", "alike",
            "laid_anew", "formed", "shown", "read", "read_whole", "plain_run", "run", "moved_run", "go", "shown_image",
            "read_image", "answer",
        ):
            self.assertRegex(SAMPLES, rf"import .*\b{name}\b")
            self.assertRegex(TEXT, rf"\b{name}\(")


if __name__ == "__main__":
    unittest.main()
