"""Rule L17: words that stand nowhere in a file of the package, remarks and texts included."""

import tempfile
import unittest
from pathlib import Path

PACKAGE = Path(__file__).resolve().parent.parent / "sparewatts"
BARRED = ("overload", "dataclass", "contextmanager")


def files_of(folder):
    """The files of a folder and its folders; compiled ones are left out, as they may be of an older state."""
    paths = [path for path in folder.rglob("*") if path.is_file()]
    return sorted(path for path in paths if "__pycache__" not in path.relative_to(folder).parts)


def barred_in(folder):
    """Where the barred words stand: (file, row, word), rows from 1; inside of longer words, too."""
    found = []
    for path in files_of(folder):
        # Bytes, so that a file that is no text is searched like any other.
        for row, line in enumerate(path.read_bytes().split(b"\n"), 1):
            name = path.relative_to(folder).as_posix()
            found.extend((name, row, word) for word in BARRED if word.encode() in line)
    return found


class BarredWordsTest(unittest.TestCase):
    def found(self, files):
        """What the search finds in a folder with these files: a dict from names to bytes."""
        with tempfile.TemporaryDirectory() as place:
            for name, content in files.items():
                path = Path(place) / name
                path.parent.mkdir(parents=True, exist_ok=True)
                path.write_bytes(content)
            return barred_in(Path(place))

    def test_no_file_of_the_package_has_a_barred_word(self):
        self.assertEqual(barred_in(PACKAGE), [])

    def test_the_files_of_the_package_are_searched(self):
        names = [path.name for path in files_of(PACKAGE)]
        self.assertIn("__init__.py", names)
        self.assertIn("runner.py", names)

    def test_each_word_is_found_as_a_name_and_where_it_is_called(self):
        for word in BARRED:
            text = f"def {word}(jobs):\n    return jobs\n\n\nlate = {word}(())\n".encode()
            self.assertEqual(self.found({"a.py": text}), [("a.py", 1, word), ("a.py", 5, word)])

    def test_remarks_docstrings_and_texts_count(self):
        for word in BARRED:
            for line in (f"# no {word} here", f'"""The {word}."""', f'TEXT = "{word}"'):
                self.assertEqual(self.found({"a.py": line.encode()}), [("a.py", 1, word)])

    def test_longer_words_count(self):
        for word in BARRED:
            for longer in (f"{word}ed", f"un{word}", f"_{word}_2", f"two{word}es"):
                self.assertEqual(self.found({"a.py": f"x = {longer}\n".encode()}), [("a.py", 1, word)])

    def test_two_words_in_one_row_are_both_found(self):
        text = b"# dataclass, overload\n"
        self.assertEqual(self.found({"a.py": text}), [("a.py", 1, "overload"), ("a.py", 1, "dataclass")])

    def test_all_files_count_also_in_folders_and_of_other_kinds(self):
        files = {"a.txt": b"overload", "b": b"\xff\x00overload", "c/d/e.py": b"\n\n# overload\n"}
        places = [("a.txt", 1, "overload"), ("b", 1, "overload"), ("c/d/e.py", 3, "overload")]
        self.assertEqual(self.found(files), places)

    def test_other_words_do_not_count(self):
        text = b"# over load, data class, context manager, load, class\n"
        self.assertEqual(self.found({"a.py": text, "empty.py": b""}), [])


if __name__ == "__main__":
    unittest.main()
