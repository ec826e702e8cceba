"""Texts of libraries and clients (points 70 to 73)."""

import random
import unittest

from oldclients.clients import Client
from oldclients.declared import Body, Class, Field, Method, Routine
from oldclients.errors import NoLibrary, NoText
from oldclients.libraries import Library
from oldclients.texts import read_client, read_library, show_client, show_library
from tests.chances import Chance, replaced, some_client, some_library
from tests.grammar import first_wrong, tokens_of
from tests.helpers import bare, base_library, diamond, doing, main, mine_client, oddities, opened, own, plain, raised, strangers

STEPS = (
    ("set", "i", 5), ("set", "i", "j"), ("set", "x", None), ("set", "x", "this"), ("add", "i", "j", -7),
    ("add", "i", 1, 2), ("less", "i", 0, "j"), ("new", "x", "A"), ("get", "i", "x", "a"), ("put", "x", "a", "i"),
    ("put", "x", "r", None), ("put", "x", "a", -(1 << 63)), ("call", "i", "x", "f", ("i", None)),
    ("call", None, "this", "f", (0, "x")), ("call", None, "x", "p", ()), ("do", "i", "r", (1,)),
    ("do", None, "none", ()), ("cast", "x", "this"), ("say", "i"), ("say", (1 << 63) - 1), ("say", 0), ("return", "i"),
    ("if", "i", (("say", 1),), (("say", 2), ("say", 3))), ("if", "this", (), ()), ("while", 0, ()),
    ("while", "x", (("if", 1, (("while", "i", (("set", "x", None),)),), ()),)),
)
LINES = """
set i = 5
set i = j
set x = *
set x = this
add i = j -7
add i = 1 2
less i = 0 j
new x = A
get i = x.a
put x.a = i
put x.r = *
put x.a = -9223372036854775808
call i = x.f(i, *)
call this.f(0, x)
call x.p()
do i = r(1)
do none()
cast x = this
say i
say 9223372036854775807
say 0
return i
if i {
  say 1
} else {
  say 2
  say 3
}
if this {
} else {
}
while 0 {
}
while x {
  if 1 {
    while i {
      set x = *
    }
  } else {
  }
}
"""


def library():
    """Return a library that has all that STEPS use."""
    variables = (("i", "int4"), ("j", "int8"), ("x", "A"))
    f = Method("f", "open", (("k", "int1"), ("y", "A")), "int4", Body(variables, STEPS))
    item = Class("A", (), (Field("a", "int4"), Field("r", "A")), (f, doing("p", [("return", None)], kind="plain")))
    return Library([item], [Routine("r", (("k", "int8"),), "int2", Body()), Routine("none", (), None, Body())])


def inside(lines, many):
    """Return lines that are indented."""
    return "".join("  " * many + line + "\n" for line in lines.strip("\n").split("\n"))


class Showing(unittest.TestCase):
    def shows(self, text, classes, routines=()):
        """Check the text of a library, and that it can be read."""
        text = text.lstrip("\n")
        made = Library(list(classes), routines)
        self.assertEqual(show_library(made), text)
        self.assertEqual(read_library(text), made)

    def test_the_example(self):
        item = Class("A", fields=(Field("a", "int4", 5), Field("b", "A", shown=False)))
        self.assertEqual(show_library(Library([item])), "class A {\n  field a int4 = 5\n  field b A hidden\n}\n")

    def test_nothing(self):
        self.shows("", [])
        self.shows("class A {\n}\n", [own("A")])

    def test_heads_of_classes(self):
        self.shows("""
class A {
}
class B : plain A {
}
class C : shared A closed {
}
class D closed lent {
}
class E lent {
}
class F : shared A, shared C, plain D closed lent {
}
""", [own("A"), own("B", "A"), own("C", "+A", closed=True), own("D", closed=True, lent=True), own("E", lent=True),
      own("F", "+A +C D", closed=True, lent=True)])

    def test_fields(self):
        self.shows("""
class A {
  field a int1
  field b int2 = -3
  field c int4 = 5 hidden
  field d int8 = -9223372036854775808
  field e A
  field f A hidden
  field g int1 hidden
  field h int8 = 9223372036854775807 hidden
}
""", [Class("A", (), (Field("a", "int1"), Field("b", "int2", -3), Field("c", "int4", 5, False),
                      Field("d", "int8", -(1 << 63)), Field("e", "A"), Field("f", "A", 0, False),
                      Field("g", "int1", 0, False), Field("h", "int8", (1 << 63) - 1, False)))])

    def test_methods(self):
        params = (("x", "int4"), ("y", "A"))
        self.shows("""
class A {
  field z int1
  open f(x int4, y A): int8 hidden {
  }
  plain g() {
  }
  plain h(x int4): A {
  }
  bare i(x int4, y A): int8 hidden
  bare j()
  bare k(): A
  bare l() hidden
  open m() hidden {
  }
}
""", [own("A", "", "z1", [opened("f", "open", params, "int8", False), plain("g"), plain("h", params[:1], "A"),
                          bare("i", params, "int8", False), bare("j"), bare("k", (), "A"), bare("l", shown=False),
                          opened("m", shown=False)])])

    def test_routines_stand_behind_the_classes(self):
        self.shows("""
class A {
}
routine r(x int4): int8 {
}
routine s() {
  var k A
  set k = *
}
""", [own("A")], [Routine("r", (("x", "int4"),), "int8", Body()),
                  Routine("s", (), None, Body((("k", "A"),), (("set", "k", None),)))])

    def test_all_statements(self):
        self.shows(f"""
class A {{
  field a int4
  field r A
  open f(k int1, y A): int4 {{
    var i int4
    var j int8
    var x A
{inside(LINES, 2)}  }}
  plain p() {{
    return *
  }}
}}
routine r(k int8): int2 {{
}}
routine none() {{
}}
""", [library().item("A")], library().routines())

    def test_the_example_of_a_body(self):
        f = doing("f", [("get", "k", "this", "a"), ("return", "k")], [("k", "int4")], (), "int4")
        self.shows("""
class A {
  field a int4
  open f(): int4 {
    var k int4
    get k = this.a
    return k
  }
}
""", [own("A", "", "a4", [f])])

    def test_clients(self):
        text = """class mine : plain Leaf {
  field k int2
  open f(): int4 {
    return 7
  }
}
main {
  var x Base
  var i int4
  new x = mine
  call i = x.f()
  say i
}
"""
        self.assertEqual(show_client(mine_client()), text)
        self.assertEqual(read_client(text), mine_client())
        self.assertEqual(show_client(Client([])), "main {\n}\n")
        two = Client((own("u"), own("v", "u")), (), ())
        self.assertEqual(show_client(two), "class u {\n}\nclass v : plain u {\n}\nmain {\n}\n")
        self.assertEqual(read_client(show_client(two)), two)

    def test_lines_of_statements_in_main(self):
        variables = (("i", "int4"), ("j", "int8"), ("x", "A"))
        steps = tuple(step for step in STEPS if "this" not in step and step[0] != "return")
        lines = [line for line in LINES.strip().split("\n") if "this" not in line and "return" not in line]
        at = lines.index("} else {", lines.index("  say 3"))
        text = "main {\n  var i int4\n  var j int8\n  var x A\n" + inside("\n".join(lines[:at] + lines[at + 2:]), 1) + "}\n"
        self.assertEqual(show_client(Client([], variables, steps)), text)


class Reading(unittest.TestCase):
    def wrong(self, at, text, read=read_library):
        """Check that a text cannot be read, because of the token with an index."""
        self.assertEqual(raised(read, text), ("NoText", at))
        self.assertEqual(first_wrong(text, {read_library: "library", read_client: "client"}[read]), at)

    def in_main(self, *tokens):
        """Return the statements of a main routine with these tokens."""
        return read_client("main { " + " ".join(tokens) + " }").steps

    def test_the_examples(self):
        self.assertEqual(read_library("class A { field a int4 hidden }"),
                         Library([Class("A", (), (Field("a", "int4", 0, False),))]))
        self.wrong(5, "class A { field int4 }")
        self.assertEqual(read_client("main { var x A new x = A say 3 }"),
                         Client([], (("x", "A"),), (("new", "x", "A"), ("say", 3))))

    def test_no_text(self):
        for read in (read_library, read_client):
            for value in strangers() + oddities() + [b"", 1, True, ["class"], ("class", "A"), Library([])]:
                self.assertEqual(raised(read, value), ("NoText", -1))

    def test_loose_blanks_and_line_feeds(self):
        text = show_library(library())
        for between in (" ", "\n", "  \n\n ", " \n"):
            self.assertEqual(read_library(between.join(tokens_of(text))), library())
            self.assertEqual(read_library(between + between.join(tokens_of(text)) + between), library())
        self.assertEqual(read_library("class A{}class B:shared A{field a int4=5 hidden}"),
                         Library([own("A"), Class("B", (("A", "shared"),), (Field("a", "int4", 5, False),))]))
        self.assertEqual(read_client("main{var x A new x=A call i=x.f(1,*,-\n 2)put x.a=-3}").steps,
                         (("new", "x", "A"), ("call", "i", "x", "f", (1, None, -2)), ("put", "x", "a", -3)))
        self.assertEqual(read_client(" main\n{ }\n\n"), Client([]))

    def test_other_characters(self):
        for sign in ("\t", "\r", "\x0b", "\xa0", "\u2028", "\u00e9", "\u0661", "\u00b2", "_", "-", "#", ";", "'", "\0", "\ud800"):
            self.wrong(0, sign)
            self.wrong(2, f"class A{sign} {{ }}")
            self.wrong(3, f"class A {{{sign}}}")
            # behind a say a sign of an integer can follow, but nothing behind it
            self.wrong(4 if sign == "-" else 3, f"main {{ say{sign} }}", read_client)
            self.wrong(1, f"main{sign}{{ }}", read_client)
        self.wrong(4, "main { say 1\t}", read_client)
        self.wrong(4, "main { say 1\u0661 }", read_client)

    def test_a_text_that_ends_too_early(self):
        for read, text in ((read_library, show_library(library())), (read_client, show_client(mine_client()))):
            tokens = tokens_of(text)
            for many in range(len(tokens)):
                part = " ".join(tokens[:many])
                goal = "library" if read == read_library else "client"
                wanted = first_wrong(part, goal)
                if wanted is not None:
                    self.assertEqual(wanted, many)
                    self.assertEqual(raised(read, part), ("NoText", many))
        self.wrong(0, "", read_client)
        self.wrong(0, " \n ", read_client)
        self.wrong(1, "class")
        self.wrong(2, "main {", read_client)

    def test_a_text_that_goes_on(self):
        self.wrong(3, "main { } }", read_client)
        self.wrong(3, "main { } main", read_client)
        self.wrong(3, "main { } class", read_client)
        self.wrong(4, "class A { } }")
        self.wrong(4, "class A { } main")
        self.wrong(6, "routine r ( ) { } class A { }")
        self.wrong(4, "class A { } routine r ( ) { }", read_client)
        self.wrong(0, "routine r() { }", read_client)
        self.wrong(0, "main { }")

    def test_the_order_of_members_and_variables(self):
        self.wrong(9, "class A { plain f ( ) { } field a int4 }")
        self.wrong(4, "main { say 1 var x A }", read_client)
        self.wrong(7, "routine r ( ) { say 1 var x A }")
        self.wrong(3, "class A lent closed { }")
        self.wrong(5, "class A { field a }")
        self.wrong(6, "class A { field a int4 5 }")
        self.wrong(7, "class A { field a int4 hidden = 5 }")
        self.wrong(7, "class A { field a int4 hidden hidden }")
        self.wrong(3, "class A { ; }")

    def test_methods_with_and_without_bodies(self):
        self.wrong(7, "class A { bare f ( ) { } }")
        self.wrong(7, "class A { open f ( ) }")
        self.wrong(7, "class A { plain f ( ) field a int4 }")
        self.wrong(8, "class A { bare f ( ) hidden { }")
        self.wrong(8, "class A { bare f ( ) : { }")
        self.wrong(6, "class A { open f ( , x int1 ) { } }")
        self.wrong(7, "class A { open f ( x ) { } }")
        self.wrong(9, "class A { open f ( x int1 , ) { } }")
        self.wrong(8, "class A { open f ( x int1 y int2 ) { } }")
        self.wrong(4, "routine r ( ) hidden { }")
        self.wrong(3, "class A { hidden f ( ) { } }")

    def test_bases(self):
        self.wrong(3, "class A : { }")
        self.wrong(3, "class A : B { }")
        self.wrong(4, "class A : plain { }")
        self.wrong(6, "class A : plain B , { }")
        self.wrong(5, "class A : plain B shared C { }")
        self.wrong(5, "class A : plain B : shared C { }")

    def test_statements(self):
        for tokens, at in (("set x", 4), ("set x 5", 4), ("set = 5", 3), ("set x = ", 5), ("set x = 5 6", 6),
                           ("add x = 5", 6), ("add x = 5 6 7", 7), ("less x = y", 6), ("new x = 5", 5), ("new x A", 4),
                           ("new x = *", 5), ("get x = y", 6), ("get x = y f", 6), ("get x = y . 5", 7), ("get x . f", 4),
                           ("put x = 5", 4), ("put x . f 5", 6), ("put x . f =", 7), ("call x", 4), ("call x = y ( )", 6),
                           ("call x . f", 6), ("call x . f (", 7), ("call x . f ( 1 2 )", 8), ("call x . f ( , )", 7),
                           ("call x . f ( 1 , )", 9), ("call * = x . f ( )", 3), ("do r", 4), ("do x = r", 6),
                           ("do x . r ( )", 4), ("do 5 ( )", 3), ("cast x = *", 5), ("cast x y", 4), ("say", 3),
                           ("say 1 2", 4), ("return", 3), ("return 1 *", 4), ("if x", 4), ("if { }", 3), ("if x { }", 6),
                           ("if x { } else", 7), ("if x { } { }", 6), ("if x { } else { ", 9), ("while x", 4),
                           ("while x { } else { }", 6), ("while { }", 3), ("else { }", 2), ("x = 5", 2), ("goto 1", 2)):
            self.wrong(at, "main { " + tokens + " }", read_client)

    def test_operands_of_each_kind_wherever_one_stands(self):
        for word in ("say", "return"):
            for text, value in (("*", None), ("x", "x"), ("5", 5), ("- 5", -5), ("0", 0)):
                self.assertEqual(self.in_main(word, text), ((word, value),))
        self.assertEqual(self.in_main("add x = * *", "less set = - 1 set", "if * { } else { }", "while * { }"), (
            ("add", "x", None, None), ("less", "set", -1, "set"), ("if", None, (), ()), ("while", None, ())))
        self.assertEqual(self.in_main("add x = 5 - 6"), (("add", "x", 5, -6),))
        self.wrong(7, "main { add x = 5 - }", read_client)

    def test_words_as_names(self):
        text = """class field : plain class, shared closed closed lent {
  field field hidden hidden
  field hidden int4 = 5 hidden
  plain plain(var var, open lent): hidden hidden {
    var var var
    set set = set
    add if = else while
    call call = do.say(return)
    call say.main(*)
    do do = do(do)
    do while()
    if if {
      while while {
      }
    } else {
    }
  }
  bare bare(): bare
}
main {
  var main main
}
"""
        plain_method = Method("plain", "plain", (("var", "var"), ("open", "lent")), "hidden", Body((("var", "var"),), (
            ("set", "set", "set"), ("add", "if", "else", "while"), ("call", "call", "do", "say", ("return",)),
            ("call", None, "say", "main", (None,)), ("do", "do", "do", ("do",)), ("do", None, "while", ()),
            ("if", "if", (("while", "while", ()),), ()))), False)
        item = Class("field", (("class", "plain"), ("closed", "shared")),
                     (Field("field", "hidden", 0, False), Field("hidden", "int4", 5, False)),
                     (plain_method, Method("bare", "bare", (), "bare")), True, True)
        self.assertEqual(read_client(text), Client([item], (("main", "main"),)))
        self.assertEqual(show_client(Client([item], (("main", "main"),))), text)
        self.assertEqual(raised(read_library, text.split("main {")[0]), ("NoLibrary", 0, "name", -1))

    def test_names(self):
        for name in ("a", "A", "a1", "Z9z", "a" * 12, "A" * 12):
            self.assertEqual(self.in_main("say " + name), (("say", name),))
        for name in ("a" * 13, "1a", "0a"):
            self.wrong(3, f"main {{ say {name} }}", read_client)
            self.wrong(1, f"class {name} {{ }}")
        self.wrong(1, "class 9 { }")
        self.wrong(4, "class A { field a" + "a" * 12 + " int4 }")
        self.wrong(5, "class A { field a int4int4int4i }")

    def test_integers(self):
        top = "9" * 20
        for text, value in (("0", 0), ("1", 1), ("-1", -1), ("- 1", -1), ("-\n1", -1), (top, int(top)), ("-" + top, -int(top)),
                            ("10", 10), ("18446744073709551616", 1 << 64)):
            self.assertEqual(self.in_main("say", text), (("say", value),))
        for text, at in (("00", 3), ("01", 3), ("9" * 21, 3), ("0" * 20, 3), ("-0", 4), ("- 0", 4), ("-01", 4),
                         ("-" + "9" * 21, 4), ("--1", 4), ("-x", 4), ("-*", 4), ("+1", 3), ("1.", 4), ("1x", 3)):
            self.wrong(at, f"main {{ say {text} }}", read_client)
        self.wrong(7, "class A { field a int4 = 05 }")
        self.wrong(8, "class A { field a int4 = -0 }")
        self.wrong(7, "class A { field a int4 = x }")
        self.wrong(7, "class A { field a int4 = * }")

    def test_a_start_of_0(self):
        one = Library([Class("A", (), (Field("a", "int4"),))])
        self.assertEqual(read_library("class A { field a int4 = 0 }"), one)
        hidden = Library([Class("A", (), (Field("a", "A", 0, False),))])
        self.assertEqual(read_library("class A { field a A = 0 hidden }"), hidden)

    def test_if_and_while_within_one_another(self):
        for word, end in (("while 1 {", "}"), ("if 1 {", "} else { }")):
            for many in (1, 7, 99, 100):
                steps = self.in_main(word * many, end * many)
                depth = 0
                while steps:
                    steps, depth = steps[0][2], depth + 1
                self.assertEqual(depth, many)
                self.assertEqual(len(self.in_main(word * many, "say 1", end * many)), 1)
            self.assertEqual(raised(read_client, "main { " + word * 101 + end * 101 + " }"), ("NoText", 2 + 300))
        # the second steps of an if are inside of it, too
        self.assertEqual(len(self.in_main("if 1 { } else { " * 100, "} " * 100)), 1)
        self.assertEqual(raised(read_client, "main { " + "if 1 { } else { " * 100 + "while 1 { }" + "} " * 101),
                         ("NoText", 2 + 600))
        # behind a hundred of them there is room again
        self.assertEqual(len(self.in_main("while 1 { " * 100, "} " * 100, "while 1 { " * 100, "} " * 100)), 2)
        body = "while 1 { " * 100 + "if 1"
        self.assertEqual(raised(read_library, "class A { plain f ( ) { " + body), ("NoText", 8 + 300))
        self.assertEqual(raised(read_library, "routine r ( ) { " + body), ("NoText", 5 + 300))

    def test_names_where_if_and_while_cannot_follow(self):
        steps = self.in_main("while 1 { " * 100, "set if = while", "} " * 100)
        for _ in range(100):
            steps = steps[0][2]
        self.assertEqual(steps, (("set", "if", "while"),))

    def test_more_than_a_library_takes(self):
        self.assertEqual(raised(read_library, "class A { } " * 21), ("NoLibrary", -1, "classes", -1))
        self.assertEqual(raised(read_library, "routine r ( ) { } " * 21), ("NoLibrary", -1, "routines", -1))
        self.assertEqual(raised(read_library, "class A { } " * 21 + "}"), ("NoText", 84))
        five = ", ".join(["plain B"] * 5)
        self.assertEqual(raised(read_library, f"class A : {five} {{ }}"), ("NoLibrary", 0, "bases", -1))
        fields = " ".join(f"field a{at} int1" for at in range(9))
        self.assertEqual(raised(read_library, f"class A {{ {fields} }}"), ("NoLibrary", 0, "fields", -1))
        methods = " ".join(f"bare f{at}()" for at in range(9))
        self.assertEqual(raised(read_library, f"class A {{ {methods} }}"), ("NoLibrary", 0, "methods", -1))
        params = ", ".join(f"a{at} int1" for at in range(5))
        self.assertEqual(raised(read_library, f"class A {{ bare f({params}) }}"), ("NoLibrary", 0, "methods", 0))
        variables = " ".join(f"var a{at} int1" for at in range(17))
        self.assertEqual(raised(read_library, f"routine r() {{ {variables} }}"), ("NoLibrary", 0, "routine", 3))
        self.assertEqual(len(read_client(f"main {{ {variables} }}").variables), 17)
        self.assertEqual(len(read_client("class a { } " * 30 + "main { }").classes), 30)
        self.assertEqual(len(self.in_main("say 1 " * 100)), 100)
        self.assertEqual(raised(read_library, "class a { }"), ("NoLibrary", 0, "name", -1))
        self.assertEqual(raised(read_library, "class A { field a int1 = 128 }"), ("NoLibrary", 0, "fields", 0))

    def test_bodies_need_not_be_valid(self):
        read = read_library("routine r() { say x set y = 99999999999999999999 return * new x = int4 do r(*, 1) }")
        self.assertEqual(read.routines()[0].body.steps, (
            ("say", "x"), ("set", "y", 10 ** 20 - 1), ("return", None), ("new", "x", "int4"), ("do", None, "r", (None, 1))))

    def test_long_texts(self):
        text = "main { " + "say 1 " * 33000 + "}"
        self.assertLess(len(text), 200000)
        self.assertEqual(len(read_client(text).steps), 33000)
        self.assertEqual(raised(read_client, "main { " + "}" * 190000), ("NoText", 3))
        self.assertEqual(raised(read_client, "(" * 200000), ("NoText", 0))
        self.assertEqual(raised(read_library, "class A { } " * 16000 + "class"), ("NoText", 64001))
        self.assertEqual(raised(read_client, "x" * 200000), ("NoText", 0))
        self.assertEqual(raised(read_client, "main { say 1 " + "\n" * 190000), ("NoText", 4))
        self.assertEqual(raised(read_client, "main { " + "while 1 { " * 19000), ("NoText", 302))


class ManyTexts(unittest.TestCase):
    def test_what_is_shown_is_read_as_an_equal_one(self):
        for seed in range(120):
            chance = Chance(random.Random(15000 + seed))
            made = some_library(chance, chance.one([1, 3, 6]))
            text = show_library(made)
            self.assertEqual(read_library(text), made)
            self.assertEqual(show_library(read_library(text)), text)
            self.assertTrue(all(line.rstrip() == line for line in text.split("\n")))
            for _ in range(2):
                client = some_client(chance, made).client
                text = show_client(client)
                self.assertEqual(read_client(text), client)
                self.assertIsNone(first_wrong(text, "client") if len(text) < 900 else None)
                between = [chance.one([" ", "\n", "  \n"]) for _ in range(7)]
                loose = "".join(token + between[at % 7] for at, token in enumerate(tokens_of(text)))
                self.assertEqual(read_client(loose), client)

    def test_the_first_token_that_cannot_follow(self):
        pool = tokens_of(show_library(library())) + tokens_of("class main field hidden closed lent routine : , - * 0 00 7 x X"
                                                            " shared bare else { } ( ) = . set if while var ;")
        counts = {"wrong": 0, "right": 0}
        texts = [("library", show_library(Library([replaced(library().item("A"), closed=True), own("B", "+A", "b1", [bare("n")])],
                                                  library().routines()))),
                 ("client", show_client(mine_client())), ("library", show_library(diamond())),
                 ("library", show_library(base_library())),
                 ("client", show_client(main("i:int4", *[step for step in STEPS if "this" not in step])))]
        chance = random.Random(16000)
        for _ in range(1500):
            goal, text = chance.choice(texts)
            tokens = tokens_of(text)
            start = chance.randrange(len(tokens))
            word = chance.choice(["put", "change", "drop", "cut", "swap"])
            if word == "put":
                tokens.insert(start, chance.choice(pool))
            elif word == "change":
                tokens[start] = chance.choice(pool)
            elif word == "drop":
                tokens.pop(start)
            elif word == "cut":
                tokens = tokens[:start]
            else:
                tokens[start:start + 2] = tokens[start:start + 2][::-1]
            changed = " ".join(tokens)
            wanted = first_wrong(changed, goal)
            try:
                (read_library if goal == "library" else read_client)(changed)
                found = None
            except NoLibrary:
                found = None
            except NoText as error:
                found = error.at
            self.assertEqual(found, wanted, changed)
            counts["right" if wanted is None else "wrong"] += 1
        self.assertGreater(min(counts.values()), 100, counts)

    def test_by_name_and_without_changes(self):
        self.assertEqual(show_library(library=library()), show_library(library()))
        self.assertEqual(show_client(client=mine_client()), show_client(mine_client()))
        self.assertEqual(read_library(text="class A { }"), Library([own("A")]))
        self.assertEqual(read_client(text="main { }"), Client([]))


if __name__ == "__main__":
    unittest.main()
