"""[70] and [71]: texts of books; [1] and [2] as far as they speak of these."""
import random
import unittest

from hushedasks.books import Book
from hushedasks.errors import InvalidBook, InvalidText
from hushedasks.texts import read_book, text_of
from samples import Case, any_values, mend_book, run_example
from test_runs_by_hand import some_book

EXAMPLE = """
from hushedasks.books import Book
from hushedasks.texts import read_book, text_of
book = Book(["idle", "mends"], ["lacks", "has"], [("mends", None, "idle")], [("lacks", "mend", "has")], ["mend"])
[text_of(book).split("\\n"), read_book("houses a\\n\\nstands  b c\\ndeed b _ c").deeds()]
# [['houses idle mends', 'stands lacks has', 'deed mends _ idle', 'hear lacks mend has', 'lost mend'], [('b', None, 'c')]]
"""
SEED = 20261122

WORDS = ["houses", "stands", "deed", "hear", "lost"]
LINES = ["houses a b", "stands c d", "deed c x d", "deed a _ b", "hear a x b", "hear d y c", "lost x y"]
TEXT = "\n".join(LINES)


def read_by_hand(text):
    """The book of a text of which it is known that it is one."""
    rows = [line.split(" ") for line in text.split("\n")]
    parts = {word: [[part for part in row if part][1:] for row in rows if [part for part in row if part][:1] == [word]]
             for word in WORDS}
    deeds = [(place, None if sound == "_" else sound, other) for place, sound, other in parts["deed"]]
    return Book(parts["houses"][0], parts["stands"][0], deeds, [tuple(row) for row in parts["hear"]],
                (parts["lost"] or [[]])[0])


def lines_with(at, line):
    """The text with another line at a place, or with none if the line is None."""
    return "\n".join(LINES[:at] + ([] if line is None else [line]) + LINES[at + 1:])


class TextCase(Case):
    def reads(self, text, asked):
        """Check that a text is read as a book."""
        given = read_book(text)
        self.assertIs(type(given), Book)
        self.assertTrue(given == asked, text)

    def refuses(self, *texts):
        for text in texts:
            self.raises(InvalidText, text, read_book, text)


class TestExample(Case):
    def test_of_the_document(self):
        given, asked = run_example(EXAMPLE)
        self.assertEqual(given, asked)


class TestTextOf(TextCase):
    def test_all_lines(self):
        self.same(text_of(Book(["a", "b"], ["c", "d"], [("c", "x", "d"), ("a", None, "b")],
                               [("a", "x", "b"), ("d", "y", "c")], ["x", "y"])), TEXT)

    def test_lines_that_are_left_out(self):
        self.same(text_of(Book(["a"], ["b"], [], [], [])), "houses a\nstands b")
        self.same(text_of(Book(["a"], ["b"], [], [], ["x"])), "houses a\nstands b\nlost x")
        self.same(text_of(Book(["a"], ["b"], [("b", None, "b")], [], [])), "houses a\nstands b\ndeed b _ b")
        self.same(text_of(Book(["a"], ["b"], [], [("b", "x", "b")], [])), "houses a\nstands b\nhear b x b")

    def test_the_order_given_is_kept(self):
        book = Book(["z", "m", "a"], ["d", "c", "y", "b"], [("z", "x", "a"), ("b", None, "d"), ("z", "x", "a")],
                    [("y", "x", "b"), ("a", "x", "z")], ["w", "b", "a", "x"])
        self.same(text_of(book), "houses z m a\nstands d c y b\ndeed z x a\ndeed b _ d\ndeed z x a\n"
                                 "hear y x b\nhear a x z\nlost w b a x")

    def test_words_of_the_lines_as_names(self):
        book = Book(["houses", "deed"], ["stands", "lost", "hear"], [("deed", "deed", "houses"), ("lost", "lost", "hear")],
                    [("stands", "stands", "lost")], ["lost", "hear"])
        self.same(text_of(book), "houses houses deed\nstands stands lost hear\ndeed deed deed houses\n"
                                 "deed lost lost hear\nhear stands stands lost\nlost lost hear")
        self.reads(text_of(book), book)

    def test_the_longest_book(self):
        houses = ["abcdefg" + last for last in "abc"]
        stands = ["abcdefg" + last for last in "defg"]
        deeds = [(stands[0], "hijklmno", stands[1])] * 10
        hearings = [(stands[at % 4], "hijklmn" + "opq"[at // 4], stands[0]) for at in range(12)]
        book = Book(houses, stands, deeds, hearings, ["hijklmn" + last for last in "opqr"])
        self.assertEqual(len(text_of(book).split("\n")), 25)
        self.reads(text_of(book), book)

    def test_what_is_no_book(self):
        for value in any_values() + [TEXT, ["houses a"], Book]:
            self.raises(InvalidBook, value, text_of, value)


class TestReadBook(TextCase):
    def test_the_text_of_a_book(self):
        self.reads(TEXT, Book(["a", "b"], ["c", "d"], [("c", "x", "d"), ("a", None, "b")],
                              [("a", "x", "b"), ("d", "y", "c")], ["x", "y"]))
        self.reads(text_of(mend_book()), mend_book())

    def test_lists_that_are_empty(self):
        self.reads("houses a\nstands b", Book(["a"], ["b"], [], [], []))
        for at in (2, 3, 4, 5, 6):
            self.reads(lines_with(at, None), read_by_hand(lines_with(at, None)))

    def test_more_blanks(self):
        book = read_book(TEXT)
        self.reads(TEXT.replace(" ", "   "), book)
        self.reads("\n".join("  " + line for line in LINES), book)
        self.reads("\n".join(line + " " for line in LINES), book)
        self.reads(" " + TEXT.replace("\n", "    \n  ").replace(" x", "     x") + "   ", book)

    def test_lines_without_a_part(self):
        book = read_book(TEXT)
        for more in ("\n", "\n\n\n", "\n   \n", "\n \n\n  "):
            self.reads(more + TEXT, book)
            self.reads(TEXT + more, book)
            self.reads(TEXT.replace("\n", "\n" + more), book)

    def test_no_lines_with_parts(self):
        self.refuses("", " ", "\n", "  \n  \n", "\n\n\n")

    def test_other_white_space(self):
        for sign in ("\t", "\r", "\f", "\v", "\x1c", "\x85", "\u00a0", "\u2028", "\u2003", "\u200b", "\ufeff", ",", ";"):
            self.refuses(TEXT.replace(" x", sign + "x"), TEXT.replace("\n", sign + "\n"), TEXT.replace("\n", sign),
                         sign + TEXT, TEXT + sign, TEXT.replace("\n", "\n" + sign + "\n", 1), TEXT + "\n" + sign,
                         TEXT.replace("houses ", "houses" + sign), TEXT.replace("a b", "a" + sign + "b", 1), sign)

    def test_a_line_end_parts_lines_alone(self):
        self.refuses(TEXT.replace(" ", "\n"), TEXT.replace("\n", " "), TEXT.replace("c x d", "c\nx d"))

    def test_no_sound(self):
        self.reads(lines_with(2, "deed c _ d"), read_by_hand(lines_with(2, "deed c _ d")))
        self.refuses(
            lines_with(0, "houses _"), lines_with(0, "houses a b _"), lines_with(1, "stands c d _"),
            lines_with(2, "deed _ x d"), lines_with(2, "deed c x _"), lines_with(2, "deed _ _ _"),
            lines_with(2, "deed _ _ d"), lines_with(2, "deed c __ d"), lines_with(4, "hear a _ b"),
            lines_with(4, "hear _ x b"), lines_with(4, "hear a x _"), lines_with(6, "lost _"), lines_with(6, "lost x _"),
            lines_with(2, "_ c x d"), lines_with(2, "deed c None d"),
        )

    def test_words_of_the_lines_as_names(self):
        text = "houses lost houses\nstands deed hear stands\ndeed deed deed hear\ndeed lost houses houses\n" \
               "hear deed hear hear\nhear lost lost houses\nlost lost deed"
        self.reads(text, Book(["lost", "houses"], ["deed", "hear", "stands"],
                              [("deed", "deed", "hear"), ("lost", "houses", "houses")],
                              [("deed", "hear", "hear"), ("lost", "lost", "houses")], ["lost", "deed"]))
        self.refuses("lost lost houses\nstands deed", "houses\nhouses a\nstands b", "houses houses\nstands houses")

    def test_lines_out_of_order(self):
        for at in range(6):
            turned = LINES[:at] + [LINES[at + 1], LINES[at]] + LINES[at + 2:]
            if at in (2, 4):
                self.assertTrue(read_book("\n".join(turned)) != read_book(TEXT))
            else:
                self.refuses("\n".join(turned))
        for line in LINES:
            rest = [other for other in LINES if other != line]
            if line != LINES[0]:
                self.refuses("\n".join([line] + rest))
            if line != LINES[6]:
                self.refuses("\n".join(rest + [line]))

    def test_lines_that_are_left_out_or_stand_twice(self):
        self.refuses(lines_with(0, None), lines_with(1, None), "houses a", "stands b", "lost x", "deed a _ a")
        self.refuses(lines_with(0, LINES[0] + "\n" + LINES[0]), lines_with(0, "houses a\nhouses b"),
                     lines_with(1, LINES[1] + "\n" + LINES[1]), lines_with(1, "stands c\nstands d"),
                     TEXT + "\n" + LINES[6], TEXT + "\nlost z", TEXT + "\nlost", lines_with(4, LINES[4] + "\n" + LINES[4]))
        twice = lines_with(2, LINES[2] + "\n" + LINES[2])
        self.reads(twice, read_by_hand(twice))

    def test_a_line_lost_without_a_sound(self):
        self.refuses(lines_with(6, "lost"), lines_with(6, " lost  "), "houses a\nstands b\nlost")

    def test_words_that_begin_no_line(self):
        for at, line in enumerate(LINES):
            word, rest = line.split(" ", 1)
            for wrong in ("", word.upper(), word.title(), word + "s", word[:-1], word + ":", "x", "hearing", "_", word * 2):
                self.refuses(lines_with(at, wrong + " " + rest))
            self.refuses(lines_with(at, word + rest))
        self.refuses(TEXT + "\nmore", TEXT + "\nend", TEXT + "\n#", "# book\n" + TEXT)

    def test_too_few_parts_and_too_many(self):
        for at in (2, 4):
            word = LINES[at].split(" ")[0]
            for rest in ("", " c", " c x", " c x d d", " c d", " a _", " a _ b b", " _"):
                self.refuses(lines_with(at, word + rest))
        self.refuses(lines_with(0, "houses"), lines_with(1, "stands"))

    def test_what_is_no_book_by_the_rules_of_books(self):
        self.refuses(
            lines_with(0, "houses a b e f"), lines_with(0, "houses a b a"), lines_with(0, "houses a b A"),
            lines_with(0, "houses a b abcdefghi"), lines_with(0, "houses a b c"), lines_with(1, "stands c d e f g"),
            lines_with(1, "stands c d c"), lines_with(1, "stands c d a"), lines_with(1, "stands c d 1"),
            lines_with(2, "deed a x c"), lines_with(2, "deed c x a"), lines_with(2, "deed e x e"),
            lines_with(2, "deed c X d"), lines_with(2, "deed c abcdefghi d"), lines_with(4, "hear a x c"),
            lines_with(4, "hear a x1 b"), lines_with(5, "hear a x a"), lines_with(6, "lost x x"),
            lines_with(6, "lost a b c d e"), lines_with(6, "lost X"), lines_with(6, "lost \u00e4"),
            lines_with(2, "\n".join(["deed c x d"] * 10)),
            lines_with(4, "\n".join("hear a " + sound + " b" for sound in "efghijklmnop")),
        )
        most = lines_with(2, "\n".join(["deed c x d"] * 9))
        self.reads(most, read_by_hand(most))
        most = lines_with(4, "\n".join("hear a " + sound + " b" for sound in "efghijklmno"))
        self.reads(most, read_by_hand(most))

    def test_what_is_no_text(self):
        self.refuses(*any_values())
        self.refuses(mend_book(), [TEXT], LINES, (TEXT,), {TEXT: TEXT}, TEXT.encode(), "houses", "book", "a b")

    def test_signs_left_out_or_put_in(self):
        chance = random.Random(SEED)
        for _ in range(300):
            at = chance.randrange(len(TEXT))
            sign = chance.choice("A1.-\t\r\"'(")
            self.refuses(TEXT[:at] + sign + TEXT[at:])


class TestBothWays(TextCase):
    def test_texts_that_are_told_are_read_as_equal_books(self):
        chance = random.Random(SEED + 1)
        for _ in range(200):
            book = some_book(chance)
            text = text_of(book)
            self.assertEqual(text, text.strip())
            self.assertNotIn("  ", text)
            self.assertNotIn("\n\n", text)
            self.reads(text, book)
            self.assertTrue(read_by_hand(text) == book)
            loose = self.loosened(chance, text)
            self.reads(loose, book)
            self.same(text_of(read_book(loose)), text)

    def loosened(self, chance, text):
        """The text with more blanks and with lines without a part."""
        def blanks():
            return " " * chance.choice([0, 0, 1, 3])

        found = []
        for line in text.split("\n"):
            found += [blanks() for _ in range(chance.choice([0, 0, 1, 2]))]
            found.append(blanks() + line.replace(" ", " " + blanks()) + blanks())
        return "\n".join(found + [blanks()] * chance.choice([0, 1]))


class TestArguments(TextCase):
    def test_by_name(self):
        self.same(text_of(book=mend_book()), text_of(mend_book()))
        self.assertTrue(read_book(text=TEXT) == read_book(TEXT))

    def test_the_book_that_is_read_is_a_new_one(self):
        first, second = read_book(TEXT), read_book(TEXT)
        self.assertIsNot(first, second)
        first.deeds().clear()
        self.assertTrue(first == second)
        for given in (first.houses(), first.stands(), first.deeds(), first.hearings(), first.lost()):
            self.made_of_plain_kinds(given)


if __name__ == "__main__":
    unittest.main()
