"""Programs: the promise [21] and the interface of uponboth/programs.py."""

import random
import unittest

from tests import order_reference, program_reference, reference
from uponboth import errors
from uponboth.errors import InvalidSize, TooLarge, UnknownName
from uponboth.programs import Program, repeated
from uponboth.tables import Table
from uponboth.terms import depth_of, format_term, parse_term, size_of

FIELDS = {"InvalidText": "position", "UnknownName": "name", "DuplicateName": "name"}
GREATEST = 10**30 - 1


def two_digit_names(many):
    return [letter + str(digit) for letter in "ABCD" for digit in range(10)][:many]


class ProgramTestCase(unittest.TestCase):
    def check_error(self, action, expected):
        """Check that a call raises the error of this name with this field."""
        name, field = expected
        with self.assertRaises(errors.TermError) as caught:
            action()
        self.assertIs(type(caught.exception), getattr(errors, name))
        if name in FIELDS:
            self.assertEqual(vars(caught.exception), {FIELDS[name]: field})
        else:
            self.assertEqual(vars(caught.exception), {})


class SourceTests(ProgramTestCase):
    def test_sources(self):
        for trees in program_reference.random_definitions(1, 300):
            source = program_reference.source_of(trees)
            program = Program(source)
            self.assertEqual(program.source(), source)
            self.assertEqual(program.names(), [name for name, tree in trees])
            self.assertIs(type(program.names()), list)
            self.assertEqual(len(program), len(trees))
            self.assertEqual(Program(program.source()), program)

    def test_empty_source(self):
        for program in (Program(), Program(""), Program(text="")):
            self.assertEqual(program.source(), "")
            self.assertEqual(program.names(), [])
            self.assertEqual(len(program), 0)
            self.assertEqual(program, Program())

    def test_forms_that_are_allowed(self):
        for source in (
            "A=x", "A0=x", "A00=x", "Z99=x", "A=x^1", "A=x_1", "A=x^1_1^1", "A=(xx)", "A=(xx)^2_3",
            "A=(x^2x)", "A=(xx^2)", "A=(x^2_3x^4)^5", "A=x;B=A", "A=x;A1=A;A11=A1;B=(AA1)", "A=x;B=(Ax)",
            "A=x;B=A^12", "A=x;A1=(Ax);B=A1^2", "A=x^999999999999999999999999999999", "A=((xx)(xx))",
            "A=x;B=x;C=(AB)_2;D=((AB)C)^3",
        ):
            with self.subTest(source):
                self.assertIsNone(program_reference.first_error(source))
                self.assertEqual(Program(source).source(), source)

    def test_equality(self):
        sources = ["", "A=x", "B=x", "A=(xx)", "A=x^2", "A=x_2", "A=x;B=x", "B=x;A=x", "A=x;B=A", "A=x^1"]
        for at, one in enumerate(sources):
            for other_at, other in enumerate(sources):
                self.assertIs(Program(one) == Program(other), at == other_at)
                self.assertIs(Program(one) != Program(other), at != other_at)
        for other in ("A=x", ["A=x"], None, 1, ("A=x",), {"A": "x"}, object(), Table(1)):
            self.assertIs(Program("A=x") == other, False)
            self.assertIs(other == Program("A=x"), False)

    def test_changing_the_names_has_no_effect(self):
        program = Program("A=x;B=(AA)")
        names = program.names()
        names.append("C")
        names[0] = "Z"
        self.assertEqual(program.names(), ["A", "B"])
        self.assertEqual(program.source(), "A=x;B=(AA)")


class TextErrorTests(ProgramTestCase):
    def check_source(self, source):
        expected = program_reference.first_error(source)
        if expected is None:
            self.assertEqual(Program(source).source(), source)
        else:
            self.check_error(lambda: Program(source), expected)
        return expected

    def test_fixed_positions(self):
        for source, position in (
            ("x", 0), (" ", 0), (";", 0), ("=", 0), ("a=x", 0), ("7=x", 0), ("A", 1), ("A1", 2), ("A12", 3),
            ("A123=x", 3), ("A=", 2), ("A==x", 2), ("A =x", 1), ("A= x", 2), ("A=x ", 3), ("A=y", 2), ("A=)", 2),
            ("A=(", 3), ("A=(x", 4), ("A=(xx", 5), ("A=(x)", 4), ("A=()", 3), ("A=(xxx)", 5), ("A=(xx))", 6),
            ("A=(xx)x", 6), ("A=xx", 3), ("A=x;", 4), ("A=x;;", 4), (";A=x", 0), ("A=x;B", 5), ("A=x;B=", 6),
            ("A=x^", 4), ("A=x^0", 4), ("A=x^01", 4), ("A=x_0", 4), ("A=x^x", 4), ("A=x^A", 4), ("A=x^-1", 4),
            ("A=x^+1", 4), ("A=x^ 1", 4), ("A=x^1 ", 5), ("A=x^^2", 4), ("A=x^2_", 6), ("A=^2", 2), ("A=x2", 3),
            ("A=(xx)2", 6), ("A=x;B=A123", 9), ("A=x^1.5", 5), ("A=x\n", 3), ("\n", 0), ("A=x;\nB=x", 4),
            ("A=(x x)", 4), ("A=X^", 4), ("A=(xx;B=x", 5), ("A=(x;B=x)", 4), ("A=x,B=x", 3), ("AB=x", 1), ("A=a", 2),
        ):
            with self.subTest(source):
                self.assertEqual(program_reference.first_wrong(source), position)
                self.check_error(lambda: Program(source), ("InvalidText", position))

    def test_digits_of_powers(self):
        for sign in "^_":
            for digits in ("1" * 30, "9" * 30, "1" + "0" * 29):
                source = f"A=x{sign}{digits}"
                self.assertEqual(Program(source).size_of("A"), int(digits))
                self.check_error(lambda: Program(source + "0"), ("InvalidText", 34))
                self.check_error(lambda: Program(source + "1;B=x"), ("InvalidText", 34))
                self.check_error(lambda: Program(f"A=(x{sign}{digits}5x)"), ("InvalidText", 35))
                self.assertEqual(Program(f"A=(x{sign}{digits}x)").size_of("A"), int(digits) + 1)
            for digits in ("0", "00", "01", "0" * 31, "0" + "1" * 30):
                self.check_error(lambda: Program(f"A=x{sign}{digits}"), ("InvalidText", 4))

    def test_changed_sources(self):
        choice = random.Random(2)
        told = {}
        for trees in program_reference.random_definitions(3, 400):
            source = program_reference.source_of(trees)
            for changed in program_reference.changed_sources(choice, source):
                expected = self.check_source(changed)
                told.setdefault(expected and expected[0], []).append(changed)
        for name in (None, "InvalidText", "UnknownName"):
            self.assertGreater(len(told[name]), 20)

    def test_beginnings(self):
        source = "A=(xx)^12;B7=(A(xA_2)^3)_30;C12=((AB7)(B7x))^1_2"
        self.assertIsNone(program_reference.first_error(source))
        for end in range(len(source)):
            self.check_source(source[:end])

    def test_long_texts(self):
        for source, position in (
            ("A=" + "(" * 398, 400), ("A=" + "(" * 200 + ")", 202), ("A=" + "x" * 398, 3), ("A" * 400, 1),
            ("A=x" + "^1" * 198 + "^", 400), ("A=" + "(x" * 199, 400),
        ):
            self.check_error(lambda: Program(source), ("InvalidText", position))
        self.assertEqual(Program("A=x" + "^1" * 198).size_of("A"), 1)
        self.assertEqual(Program("A=x" + "_2" * 198).size_of("A"), 2**198)


def nested(levels, inside="x", left=False):
    """Brackets in brackets, the operand inside, and no spare brackets."""
    for level in range(levels):
        inside = f"({inside}x)" if left else f"(x{inside})"
    return inside


class ErrorOrderTests(ProgramTestCase):
    def test_nesting(self):
        for left in (False, True):
            for levels in (29, 30):
                program = Program("A=" + nested(levels, left=left))
                self.assertEqual(program.depth_of("A"), levels)
                self.assertEqual(program.size_of("A"), levels + 1)
            for levels in (31, 32, 60, 99):
                self.check_error(lambda: Program("A=" + nested(levels, left=left)), ("NestingTooDeep", None))
        # Many brackets, but not many inside each other.
        self.assertEqual(Program(";".join(f"A{k}=" + nested(20) for k in range(6))).depth_of("A5"), 20)

    def test_text_errors_come_before_nesting(self):
        for source in ("A=" + nested(31) + ";", "A=" + nested(31) + "^0", "A=" + nested(31) + ";B", "A=" + "(" * 31):
            self.check_error(lambda: Program(source), ("InvalidText", program_reference.first_wrong(source)))

    def test_nesting_comes_before_names(self):
        for source in ("A=B;C=" + nested(31), "A=x;A=x;C=" + nested(31), "A=" + nested(31, "B")):
            self.check_error(lambda: Program(source), ("NestingTooDeep", None))

    def test_names(self):
        for source, expected in (
            ("A=A", ("UnknownName", "A")),
            ("A=B", ("UnknownName", "B")),
            ("A=x;B=A1", ("UnknownName", "A1")),
            ("A1=x;B=A", ("UnknownName", "A")),
            ("A=x;B=A01", ("UnknownName", "A01")),
            ("A=(BC)", ("UnknownName", "B")),
            ("A=x;B=(A(CD))", ("UnknownName", "C")),
            ("A=B;B=x", ("UnknownName", "B")),
            ("A=(xB)^2;C=D", ("UnknownName", "B")),
            ("A=x;A=x", ("DuplicateName", "A")),
            ("A=x;B=x;A=B", ("DuplicateName", "A")),
            ("A=x;A=(AB)", ("UnknownName", "B")),
            ("A=x;A=A", ("DuplicateName", "A")),
            ("A=x;A=x;B=C", ("DuplicateName", "A")),
            ("A=x;B=C;A=x", ("UnknownName", "C")),
            ("B=x;A=x;B=x;A=x", ("DuplicateName", "B")),
        ):
            with self.subTest(source):
                self.assertEqual(program_reference.first_error(source), expected)
                self.check_error(lambda: Program(source), expected)

    def test_limit(self):
        names = two_digit_names(40)
        for many in (29, 30):
            program = Program(";".join(f"{name}=x" for name in names[:many]))
            self.assertEqual(len(program), many)
            self.assertEqual(program.names(), names[:many])
        for many in (31, 32, 40):
            self.check_error(lambda: Program(";".join(f"{name}=x" for name in names[:many])), ("LimitReached", None))

    def test_names_come_before_the_limit(self):
        full = ";".join(f"{name}=x" for name in two_digit_names(31))
        for more, expected in (
            ("Z=Y", ("UnknownName", "Y")), ("A0=x", ("DuplicateName", "A0")), ("Z=A0", ("LimitReached", None)),
        ):
            self.check_error(lambda: Program(full + ";" + more), expected)
        self.check_error(lambda: Program(full + ";Z=" + nested(31)), ("NestingTooDeep", None))
        self.check_error(lambda: Program(full + ";"), ("InvalidText", len(full) + 1))


class AddDefinitionTests(ProgramTestCase):
    def test_one_by_one(self):
        for trees in program_reference.random_definitions(4, 100):
            program = Program()
            for at, tree in enumerate(trees):
                self.assertIsNone(program.add_definition(program_reference.source_of([tree])))
                self.assertEqual(len(program), at + 1)
            self.assertEqual(program, Program(program_reference.source_of(trees)))

    def test_separators(self):
        program = Program("A=x")
        for text, position in (("B=x;", 3), (";B=x", 0), ("B=x;C=x", 3), (";", 0), ("", 0), ("B=(x;x)", 4), ("B=", 2)):
            self.check_error(lambda: program.add_definition(text), ("InvalidText", position))
            self.assertEqual(program.source(), "A=x")

    def test_errors_change_nothing(self):
        program = Program("A=(xx);B=A^3")
        for text, expected in (
            ("C=(x", ("InvalidText", 4)),
            ("C=x^0", ("InvalidText", 4)),
            ("C=" + nested(31), ("NestingTooDeep", None)),
            ("C=(AD)", ("UnknownName", "D")),
            ("C=C", ("UnknownName", "C")),
            ("A=D", ("UnknownName", "D")),
            ("A=x", ("DuplicateName", "A")),
            ("B=A", ("DuplicateName", "B")),
        ):
            with self.subTest(text):
                self.check_error(lambda: program.add_definition(text), expected)
                self.assertEqual(program.source(), "A=(xx);B=A^3")
                self.assertEqual(program.names(), ["A", "B"])
                self.assertEqual(program.size_of("B"), 6)
                with self.assertRaises(UnknownName):
                    program.size_of("C")
        program.add_definition("C=(AB)")
        self.assertEqual(program, Program("A=(xx);B=A^3;C=(AB)"))

    def test_limit(self):
        program = Program()
        names = two_digit_names(31)
        for name in names[:30]:
            program.add_definition(f"{name}=x")
        for text, expected in (
            ("Z=x", ("LimitReached", None)), ("Z=Y", ("UnknownName", "Y")), ("A0=x", ("DuplicateName", "A0")),
            ("Z=", ("InvalidText", 2)), ("Z=" + nested(31), ("NestingTooDeep", None)),
        ):
            self.check_error(lambda: program.add_definition(text), expected)
            self.assertEqual(program.names(), names[:30])

    def test_programs_are_independent(self):
        one, other = Program("A=x"), Program("A=x")
        one.add_definition("B=A")
        self.assertEqual(other.source(), "A=x")
        self.assertNotEqual(one, other)
        other.add_definition("B=A")
        self.assertEqual(one, other)
        self.assertEqual(len(Program()), 0)


class TermTests(ProgramTestCase):
    def test_powers(self):
        program = Program("A=(xx);B=A^3;C=A_3;D=A^2_3;E=A_3^2;F=x^1_1;G=(x^2x)_2")
        a = ((), ())
        for name, term in (
            ("B", (a, (a, a))),
            ("C", ((a, a), a)),
            ("D", (((a, a), (a, a)), (a, a))),
            ("E", (((a, a), a), ((a, a), a))),
            ("F", ()),
            ("G", ((a, ()), (a, ()))),
        ):
            self.assertEqual(program.term(name), term)

    def test_definitions(self):
        small = 0
        for trees in program_reference.random_definitions(5, 400):
            program = Program(program_reference.source_of(trees))
            sizes, depths = program_reference.sizes(trees), program_reference.depths(trees)
            terms = program_reference.terms(trees)
            for name, tree in trees:
                self.assertEqual(program.size_of(name), sizes[name])
                self.assertEqual(program.depth_of(name), depths[name])
                if terms[name] is None:
                    with self.assertRaises(TooLarge) as caught:
                        program.term(name)
                    self.assertEqual(vars(caught.exception), {"size": sizes[name]})
                else:
                    term = program.term(name)
                    self.assertEqual(term, terms[name])
                    self.assertEqual(parse_term(format_term(term)), term)
                    self.assertEqual(size_of(term), sizes[name])
                    self.assertEqual(depth_of(term), depths[name])
                    small += 1
        self.assertGreater(small, 200)

    def test_every_small_term(self):
        for term in reference.mixed_terms()[::3]:
            text = reference.text(term)
            program = Program(f"A={text}")
            self.assertEqual(program.size_of("A"), reference.size(term))
            self.assertEqual(program.depth_of("A"), reference.depth(term))
            if reference.allowed(term):
                self.assertEqual(program.term("A"), term)

    def test_bounds(self):
        program = Program("A=x^7;B=x^8;C=x_7;D=x_8;E=(xx)^6;F=(xx)^7;G=((xx)(xx))^3;H=(GG);I=(E(xx))")
        self.assertEqual(program.term("A"), reference.right_comb(7))
        self.assertEqual(program.term("C"), reference.left_comb(7))
        self.assertEqual(size_of(program.term("E")), 12)
        self.assertEqual(size_of(program.term("G")), 12)
        # The first two are too deep only, H is too large and within the depth, the others are both.
        for name, size in (("B", 8), ("D", 8), ("H", 24), ("F", 14), ("I", 14)):
            with self.assertRaises(TooLarge) as caught:
                program.term(name)
            self.assertEqual(caught.exception.size, size)
        self.assertEqual(program.depth_of("H"), 5)

    def test_huge_sizes(self):
        source = f"A=x^{GREATEST};B=(AA)_{GREATEST};C=(Bx)^{GREATEST}_{GREATEST}"
        program = Program(source)
        size = GREATEST
        depth = GREATEST - 1
        for name, grown, deeper in (
            ("A", size, depth),
            ("B", 2 * size * GREATEST, depth + 1 + GREATEST - 1),
            ("C", (2 * size * GREATEST + 1) * GREATEST**2, depth + 1 + GREATEST - 1 + 1 + 2 * (GREATEST - 1)),
        ):
            self.assertEqual(program.size_of(name), grown)
            self.assertEqual(program.depth_of(name), deeper)
            with self.assertRaises(TooLarge) as caught:
                program.term(name)
            self.assertEqual(caught.exception.size, grown)

    def test_sizes_of_more_digits_than_python_writes_out(self):
        program = Program("A0=x")
        powers = f"^{GREATEST}_{GREATEST}" * 6
        names = two_digit_names(30)
        for before, name in zip(names, names[1:]):
            program.add_definition(f"{name}={before}{powers}")
        self.assertEqual(program.size_of("C9"), GREATEST ** (12 * 29))
        self.assertEqual(program.depth_of("C9"), 12 * 29 * (GREATEST - 1))
        with self.assertRaises(TooLarge) as caught:
            program.term("C9")
        self.assertEqual(caught.exception.size, GREATEST ** (12 * 29))
        self.assertIsInstance(str(caught.exception), str)
        self.assertIn(program.evaluate("C9", size=9), range(1, 513))
        program = Program(program.source())
        self.assertEqual(program.term("A0"), ())

    def test_small_terms_beside_huge_ones(self):
        program = Program(f"A=x^{GREATEST};B=(xx);C=(AB);D=(BB)^2")
        self.assertEqual(program.term("B"), ((), ()))
        self.assertEqual(program.term("D"), ((((), ()), ((), ())), (((), ()), ((), ()))))

    def test_unknown_names(self):
        program = Program("A=x^99;B1=x")
        for name in ("", "B", "a", "A1", "A ", "B2", "x", "A=x^99", "B1;", "ABC"):
            for query in (program.size_of, program.depth_of, program.term, program.evaluate):
                self.check_error(lambda: query(name), ("UnknownName", name))
            for size in (0, 9, 10, -1):
                self.check_error(lambda: program.evaluate(name, size=size), ("UnknownName", name))
        for query in (Program().size_of, Program().term):
            self.check_error(lambda: query("A"), ("UnknownName", "A"))

    def test_queries_change_nothing(self):
        program = Program(f"A=(xx);B=A^3;C=B_{GREATEST}")
        answers = [
            [program.size_of("C"), program.depth_of("B"), program.term("B"), program.evaluate("C"), program.names()]
            for time in range(3)
        ]
        self.assertEqual(answers, answers[:1] * 3)
        self.assertEqual(program.source(), f"A=(xx);B=A^3;C=B_{GREATEST}")


class EvaluateTests(ProgramTestCase):
    def test_definitions(self):
        numbers = (1, 2, 3, 7, 100, 511, 512, 513, 10**9, 10**20 + 7, GREATEST)
        for at, trees in enumerate(program_reference.random_definitions(6, 200, numbers, 4)):
            program = Program(program_reference.source_of(trees))
            for size in (at % 10, 3, 9) if at % 20 == 0 else (at % 7, 3):
                values = program_reference.values(trees, size)
                for name, tree in trees:
                    self.assertEqual(program.evaluate(name, size=size), values[name])

    def test_powers_of_all_bases(self):
        for size in range(6):
            table = order_reference.table(size)
            # In the table of a size the first elements are values of left powers of the generator.
            for base in range(1, 2**size + 1):
                program = Program(f"A=x_{base};B=A^{GREATEST};C=A_{GREATEST}")
                trees = [
                    ("A", ("_", ("x",), base)),
                    ("B", ("^", ("name", "A"), GREATEST)),
                    ("C", ("_", ("name", "A"), GREATEST)),
                ]
                values = program_reference.values(trees, size)
                self.assertEqual([program.evaluate(name, size=size) for name in "ABC"], [values[name] for name in "ABC"])
            self.assertEqual(len(table), 4**size)

    def test_all_small_powers(self):
        table = Table(9)
        for sign in "^_":
            value = base = table.evaluate(((), ((), ())))
            for number in range(1, 60):
                program = Program(f"A=(x(xx)){sign}{number}")
                self.assertEqual(program.evaluate("A", size=9), value)
                value = table.apply(base, value) if sign == "^" else table.apply(value, base)

    def test_values_that_come_back_later(self):
        # Tables have no such values, but the shortcut must not depend on that.
        after = {0: 1, 1: 2, 2: 3, 3: 4, 4: 5, 5: 3}
        value = 0
        for times in range(30):
            self.assertEqual(repeated(lambda place: after[place], 0, times), value)
            value = after[value]

    def test_agrees_with_tables(self):
        for trees in program_reference.random_definitions(7, 150):
            program = Program(program_reference.source_of(trees))
            for name, term in program_reference.terms(trees).items():
                if term is not None:
                    for size in range(10):
                        self.assertEqual(program.evaluate(name, size=size), Table(size).evaluate(term))

    def test_default_size(self):
        program = Program(f"A=x^{GREATEST};B=(Ax)_5")
        for name in ("A", "B"):
            self.assertEqual(program.evaluate(name), program.evaluate(name, size=3))
        self.assertEqual(Program("A=x_5").evaluate("A"), 5)
        self.assertEqual(Program("A=x_9").evaluate("A"), 1)

    def test_wrong_sizes(self):
        program = Program("A=x^5")
        for wrong in (-1, -2, 10, 11, 10**29, -(10**29)):
            with self.assertRaises(InvalidSize):
                program.evaluate("A", size=wrong)
        with self.assertRaises(TypeError):
            program.evaluate("A", 3)

    def test_many_powers(self):
        names = two_digit_names(30)
        program = Program("A0=((xx)x)")
        for before, name in zip(names, names[1:]):
            program.add_definition(f"{name}={before}" + "^99_98" * 60)
        self.assertIn(program.evaluate("C9", size=9), range(1, 513))
        self.assertEqual(program.evaluate("C9", size=0), 1)


if __name__ == "__main__":
    unittest.main()
