"""The examples of the document, line by line, as they stand in the folder examples."""

import doctest
import pathlib
import re
import unittest

FOLDER = pathlib.Path(__file__).parent / "examples"
README = FOLDER.parent.parent / "README.md"
LINES = {"section_04.txt": 7, "section_05.txt": 13, "section_06.txt": 13, "section_07.txt": 15, "section_08.txt": 12,
         "section_09.txt": 10, "section_10.txt": 15, "section_11.txt": 15, "section_12.txt": 19,
         "section_13.txt": 8, "section_14.txt": 9, "section_15.txt": 7}


class Examples(unittest.TestCase):
    def test_each_line(self):
        for name, many in LINES.items():
            with self.subTest(name):
                failed, tried = doctest.testfile(str(FOLDER / name), module_relative=False, verbose=False)
                self.assertEqual((failed, tried), (0, many))

    def test_the_readme(self):
        code = "\n".join(re.findall(r"```\n(>>> .*?)```", README.read_text(encoding="utf-8"), re.DOTALL))
        told = doctest.DocTestParser().get_doctest(code, {}, "README.md", str(README), 0)
        failed, tried = doctest.DocTestRunner(verbose=False).run(told)
        self.assertEqual((failed, tried), (0, 58))

    def test_all_files_are_named_here(self):
        self.assertEqual(sorted(LINES), sorted(path.name for path in FOLDER.glob("*.txt")))


if __name__ == "__main__":
    unittest.main()
