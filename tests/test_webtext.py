from making import Case, crowded, full, grid, line, renamed, ring, side_by_side, some_webs

from pairfloors.errors import BadLink, BadSize, BadText, TooMany
from pairfloors.webs import Web
from pairfloors.webtext import web_from, web_text


class WebText(Case):
    def test_examples(self):
        self.assertEqual(web_text(grid(2, 2)), "web 4\n0 1\n0 2\n1 3\n2 3")
        self.assertEqual(web_text(web=line(1)), "web 1")
        self.is_web(web_from("web 4\n0 1\n0 2\n1 3\n2 3"), 4, grid(2, 2).links)
        self.is_web(web_from(text="web 40"), 40, ())

    def test_read_as_written_and_written_as_read(self):
        for web in some_webs() + [crowded(), Web(40, ()), grid(5, 8), ring(40), full(18), renamed(side_by_side(ring(5), line(30)), 3)]:
            self.is_web(web_from(web_text(web)), web.size, web.links)
            self.assertEqual(web_text(web_from(web_text(web))), web_text(web))

    def test_bad_rows(self):
        for text, at in (
            ("", 0), ("\n", 0), ("web", 0), ("web ", 0), ("web  4", 0), (" web 4", 0), ("web 4 ", 0), ("web 4 4", 0), ("Web 4", 0), ("wob 4", 0),
            ("4", 0), ("web a", 0), ("web 04", 0), ("web -4", 0), ("web 1000000", 0), ("web\t4", 0), ("web \u0664", 0), ("0 1", 0), ("web 4\r", 0),
            ("web 4\n", 1), ("web 4\n\n0 1", 1), ("web 4\n0", 1), ("web 4\n0 1 2", 1), ("web 4\n0  1", 1), ("web 4\n 0 1", 1), ("web 4\n0 1 ", 1),
            ("web 4\n0 a", 1), ("web 4\n00 1", 1), ("web 4\n0 01", 1), ("web 4\n0 -1", 1), ("web 4\n0 1234567", 1), ("web 4\n0-1", 1), ("web 4\n0,1", 1),
            ("web 4\n0 1\n", 2), ("web 4\n0 1\n1 x\n", 2), ("web 4\n0 1\nweb 4", 2), ("web 4\n0 1\r\n1 2", 1), ("web 4\nlink 0 1", 1),
            ("plan 2 2 0", 0), ("\nweb 4", 0), ("web 4\n0 1\n0 2\n0 3\n1 ", 4),
        ):
            self.refuses(BadText, at, web_from, text)

    def test_form_comes_first(self):
        self.refuses(BadText, 2, web_from, "web 99\n9 9\n9")
        self.refuses(BadText, 200, web_from, "web 0" + "\n0 1" * 199 + "\n0 1 ")
        self.refuses(BadText, 0, web_from, "web\n9")

    def test_errors_of_the_web(self):
        for size in (0, 41, 999999):
            self.refuses(BadSize, size, web_from, f"web {size}\n5 3")
        self.refuses(TooMany, 161, web_from, "web 40" + "\n9 9" * 161)
        for text, index in (("web 4\n1 0", 0), ("web 4\n0 1\n0 1", 1), ("web 4\n0 2\n0 1", 1), ("web 4\n0 1\n0 4", 1), ("web 4\n2 2", 0),
                            ("web 4\n0 1\n1 2\n2 999999", 2)):
            self.refuses(BadLink, index, web_from, text)
