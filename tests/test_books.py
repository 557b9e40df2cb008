from latequestions.books import Book
from latequestions.errors import BadBook, NoLook
from support import ODD_VALUES, Case

LOOKS = ("walk", "list", "len", "truth", "count", "any", "has", "item", "part")
USUAL = "late walk:keep list:keep len:keep truth:keep count:ask any:ask has:ask item:ask part:ask"
FRESH = "late walk:anew list:anew len:anew truth:anew count:anew any:anew has:anew item:anew part:anew"


class BookTest(Case):

    def test_class_values(self):
        self.same(Book.LOOKS, LOOKS)
        self.same(Book.WAYS, ("keep", "ask", "anew"))

    def test_texts(self):
        self.assertEqual(str(Book.usual()), USUAL)
        self.assertEqual(str(Book()), USUAL)
        self.assertEqual(str(Book.plain()), USUAL.replace("late", "early"))
        self.assertEqual(str(Book("early")), USUAL.replace("late", "early"))
        self.assertEqual(str(Book.fresh()), FRESH)
        self.assertEqual(str(Book("late", walk="ask", part="keep")), USUAL.replace("k:keep", "k:ask", 1)[:-3] + "keep")

    def test_each_way_of_each_look(self):
        for look in LOOKS:
            for way in ("keep", "ask", "anew"):
                book = Book(built="early", **{look: way})
                self.assertEqual(book[look], way)
                self.assertEqual(book, Book.plain().turned(look, way))
                self.assertEqual([book[other] for other in LOOKS if other != look],
                                 [Book.usual()[other] for other in LOOKS if other != look])

    def test_wrong_built(self):
        for thing in ODD_VALUES + [0, "", "Late", "late ", "now", ("late",), ["early"]]:
            self.fails(BadBook, {"thing": thing}, Book, thing)
            self.fails(BadBook, {"thing": thing}, Book, thing, none="keep", walk="no")

    def test_wrong_keywords(self):
        self.fails(NoLook, {"look": "size"}, Book, size="keep")
        self.fails(NoLook, {"look": "a"}, Book, z="keep", a="keep", walk="no")
        self.fails(NoLook, {"look": ""}, Book, **{"": "keep", "a b": "ask"})

    def test_wrong_ways(self):
        for thing in ODD_VALUES + [0, "", "keep ", "Keep", "late", ("keep",), ["ask"]]:
            self.fails(BadBook, {"thing": thing}, Book, walk=thing)
            self.fails(BadBook, {"thing": thing}, Book, part="no", any=thing, truth="keep")
        self.fails(BadBook, {"thing": "first"}, Book, any="third", count="second", walk="first")

    def test_read(self):
        for built in ("late", "early"):
            for ways in ("keep ask anew keep ask anew keep ask anew", "anew anew ask ask keep keep ask keep anew"):
                text = " ".join([built] + [f"{look}:{way}" for look, way in zip(LOOKS, ways.split())])
                book = Book.read(text)
                self.assertEqual(str(book), text)
                self.assertEqual([book.built] + [book[look] for look in LOOKS], [built] + ways.split())
        self.assertEqual(Book.read(text=USUAL), Book.usual())

    def test_read_wrong_texts(self):
        words = USUAL.split()
        for text in (
            "", "late", " " + USUAL, USUAL + " ", USUAL.replace(" ", "  ", 1), USUAL + " part:ask", USUAL.upper(),
            " ".join(words[:-1]), " ".join(words[1:]), " ".join([words[0], words[2], words[1]] + words[3:]),
            USUAL.replace("late", "now"), USUAL.replace("walk:keep", "walk:late"), USUAL.replace("walk:", "walk"),
            USUAL.replace("walk:keep", "walk"), USUAL.replace("walk:keep", "walk:"), USUAL.replace("walk:", "walk::"),
            USUAL.replace("walk:", "walk: "), USUAL.replace("walk:", "walks:"), USUAL.replace("walk:keep", ":keep"),
            USUAL.replace(" ", "\n"), USUAL.replace("part:ask", "part:ask:ask"), USUAL.replace("list", "walk"),
        ):
            self.fails(BadBook, {"thing": text}, Book.read, text)
        for thing in ODD_VALUES + [0, words, tuple(words), [USUAL]]:
            self.fails(BadBook, {"thing": thing}, Book.read, thing)

    def test_getting_a_way(self):
        self.assertEqual([Book.usual()[look] for look in LOOKS], ["keep"] * 4 + ["ask"] * 5)
        for thing in ODD_VALUES + [0, "", "late", "built", "Walk", ("walk",)]:
            self.fails(NoLook, {"look": thing}, lambda: Book.usual()[thing])

    def test_turned(self):
        book = Book.usual()
        turned = book.turned(look="count", way="anew")
        self.assertEqual(str(turned), USUAL.replace("count:ask", "count:anew"))
        self.assertEqual(str(book), USUAL)
        self.assertEqual(Book.plain().turned("walk", "ask").built, "early")
        for thing in ODD_VALUES + [0, "", "late"]:
            self.fails(NoLook, {"look": thing}, book.turned, thing, "keep")
            self.fails(NoLook, {"look": thing}, book.turned, thing, thing)
            self.fails(BadBook, {"thing": thing}, book.turned, "walk", thing)

    def test_unlike(self):
        book = Book.usual()
        self.same(book.unlike(Book.plain()), ())
        self.same(book.unlike(Book("early", part="anew", list="ask")), ("list", "part"))
        self.same(book.unlike(other=Book.fresh()), LOOKS)

    def test_equal(self):
        self.assertTrue(Book.usual() == Book("late", walk="keep"))
        self.assertFalse(Book.usual() != Book())
        for other in (Book.plain(), Book.fresh(), Book(part="anew"), USUAL, None, LOOKS):
            self.assertFalse(Book.usual() == other)
            self.assertTrue(Book.usual() != other)

    def test_built(self):
        self.assertEqual([Book.usual().built, Book.plain().built, Book.fresh().built], ["late", "early", "late"])

    def test_iterating(self):
        self.same(list(Book.fresh()), list(LOOKS))
        self.same([look for look in Book("early", part="ask", walk="ask")], list(LOOKS))

    def test_keywords_that_are_changed_later(self):
        ways = {"walk": "ask"}
        book = Book("late", **ways)
        ways["walk"] = "anew"
        self.assertEqual(book["walk"], "ask")
