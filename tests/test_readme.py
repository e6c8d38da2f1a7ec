"""What README.md shows, done once more: what stands behind a # as a plain value is what the line tells."""

import ast
import contextlib
import io
import pathlib
import re
import unittest

README = pathlib.Path(__file__).resolve().parent.parent / 'README.md'


def plain_value(comment):
    """(value,) if a comment is a plain value, perhaps with words behind it; () otherwise."""
    for end in [len(comment)] + [match.start() for match in re.finditer('[:,;]', comment)][::-1]:
        try:
            return (ast.literal_eval(comment[:end].strip()),)
        except (ValueError, SyntaxError):
            pass
    return ()


class ReadmeTest(unittest.TestCase):

    def test_each_line(self):
        names, compared = {}, 0
        for block in re.findall(r'```python\n(.*?)```', README.read_text(), re.DOTALL):
            lines = block.split('\n')
            for node in ast.parse(block).body:
                line = lines[node.end_lineno - 1]
                wanted = plain_value(line.split('#', 1)[1].strip()) if '#' in line else ()
                code = ast.get_source_segment(block, node)
                with contextlib.redirect_stdout(io.StringIO()):
                    if not isinstance(node, ast.Expr):
                        exec(code, names)
                        continue
                    found = eval(code, names)
                if wanted:
                    compared += 1
                    self.assertEqual(found, wanted[0], line)
        self.assertGreater(compared, 60)


if __name__ == '__main__':
    unittest.main()
