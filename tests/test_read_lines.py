"""read: the forms of lines, the reasons 1 to 5 and 7, 8, and which of several counts."""

from tests.support import CallsTest, ended, node_rows, nodes, read, read_text, run, size, texts, needs, unknown

SHORT_12 = "abcdefghijk2"
NAME_30 = "abcdefghij klmnopqrst-vwxyz012"
PATH_40 = "src/Some_Folder-2/another.folder/Main.py"
ARGUMENT_40 = "a b<c>d[e]f;g:h!i?j\"k'l`m~n|o\\p^q&r*s+t="


class Plain(CallsTest):
    def test_empty_text(self):
        self.assertEqual(run(read_text("")), [[0, 0]])

    def test_one_empty_line_is_prose(self):
        self.assertEqual(run(read_text("\n")), [[0, 1]])

    def test_prose(self):
        self.reads(4, "Some words.", " @chunk a", "@@chunk a", "~")

    def test_prose_of_one_at_is_a_fault(self):
        self.faults(1, 2, "@")

    def test_part_without_lines(self):
        self.reads(1, "@chunk a", "@end")

    def test_block_count_has_prose_and_parts(self):
        self.reads(4, "one", "@file a", "x", "", "@end", "two", "@chunk b", "@end")


class Reason1(CallsTest):
    def test_last_line_not_ended(self):
        for text in ["a", "a\nb", "@chunk a\n@end", "@nothing", "\n "]:
            line = text.count("\n") + 1
            self.assertEqual(run(read_text(text)), [[line, 1]], text)

    def test_no_end_of_line_comes_before_everything_else(self):
        self.assertEqual(run(read_text("@chunk a\n@if b\n@end")), [[3, 1]])
        self.assertEqual(run(read_text("@chunk a\n@<x>")), [[2, 1]])

    def test_bytes_that_are_no_signs(self):
        for byte in [0, 9, 11, 13, 31, 127, 128, 200, 255]:
            self.assertEqual(run(read_text([97, byte, 98, 10])), [[1, 1]], byte)
            self.assertEqual(run(read_text([10] + [byte, 10])), [[2, 1]], byte)

    def test_all_signs_are_prose(self):
        for byte in range(32, 127):
            self.assertEqual(run(read_text([97, byte, 98, 10])), [[0, 1]], byte)

    def test_no_sign_within_a_part(self):
        text = list(b"@chunk a\nx\ty\n@end\n")
        self.assertEqual(run(read_text(text)), [[2, 1]])

    def test_carriage_return_is_no_sign(self):
        self.assertEqual(run(read_text("@chunk a\r\n@end\r\n")), [[1, 1]])

    def test_200_bytes_and_201(self):
        self.reads(1, "x" * 200)
        self.faults(1, 1, "x" * 201)
        self.reads(1, "@chunk a", "x" * 200, "@end")
        self.faults(2, 1, "@chunk a", "x" * 201, "@end")

    def test_too_long_comes_before_other_reasons(self):
        self.faults(1, 1, "@nothing" + "x" * 200)
        self.faults(2, 1, "@chunk a", "@{" + "x" * 200, "@end")
        self.assertEqual(run(read_text([64, 97, 7, 10])), [[1, 1]])


class Reason2(CallsTest):
    def test_no_header(self):
        for line in ["@", "@x", "@end", "@if a", "@else", "@fi", "@{a}", "@<a>", "@ @", "@chunk", "@file",
                     "@chunk ", "@file ", "@chunka", "@Chunk a", "@chunk a ", "@chunk  a",
                     "@file  a", "@file a b", "@file a ", "@chunk a  b", "@chunk A", "@chunk a_b", "@chunk a.b",
                     "@chunk a/b", "@file a(b)", "@file a,b", "@file a+b", "@file a@b"]:
            self.faults(1, 2, line)
            self.faults(3, 2, "@chunk a", "@end", line, "@end")

    def test_wrong_parameter_lists(self):
        for tail in ["()", "(", ")", "(x", "x)", "(x) ", "(x))", "((x)", "((x))", " (x)", "(x,y)", "(x,  y)", "(x , y)",
                     "( x)", "(x )", "(x, )", "(, x)", "(,)", "(X)", "(1)", "(1x)", "(x-y)", "(x y)", "(x, x)",
                     "(x, y, x)", "(a, b, c, d, e)", "(x)(y)", "(x)y", "(x_)"]:
            self.faults(1, 2, "@chunk a" + tail, "@end")

    def test_parameters_without_a_name(self):
        self.faults(1, 2, "@chunk (x)", "@end")

    def test_headers(self):
        for line in ["@chunk a", "@chunk 0", "@chunk -", "@chunk a-b c 9", "@chunk end", "@chunk a(x)",
                     "@chunk a b(x, y)", "@chunk a(a, b, c, d)", "@chunk a(x1, x2)", "@chunk a(z9z)",
                     "@file a", "@file A", "@file .", "@file -", "@file _", "@file /", "@file a/b.c_d-E9"]:
            self.reads(1, line, "@end")

    def test_every_byte_of_a_name(self):
        good = b"abcdefghijklmnopqrstuvwxyz0123456789-"
        for byte in range(32, 127):
            text = list(b"@chunk x") + [byte] + list(b"x\n@end\n")
            expected = [0, 1] if byte in good or byte == 32 else [1, 2]
            self.assertEqual(run(read_text(text)), [expected], byte)

    def test_every_byte_of_a_path(self):
        good = b"abcdefghijklmnopqrstuvwxyzABCDEFGHIJKLMNOPQRSTUVWXYZ0123456789._/-"
        for byte in range(32, 127):
            text = list(b"@file ") + [byte] + list(b"\n@end\n")
            self.assertEqual(run(read_text(text)), [[0, 1] if byte in good else [1, 2]], byte)

    def test_every_byte_of_a_parameter(self):
        first = b"abcdefghijklmnopqrstuvwxyz"
        later = first + b"0123456789"
        for byte in range(32, 127):
            alone = list(b"@chunk a(") + [byte] + list(b")\n@end\n")
            behind = list(b"@chunk a(x") + [byte] + list(b")\n@end\n")
            self.assertEqual(run(read_text(alone)), [[0, 1] if byte in first else [1, 2]], byte)
            self.assertEqual(run(read_text(behind)), [[0, 1] if byte in later else [1, 2]], byte)

    def test_greatest_lengths_and_one_beyond(self):
        self.reads(1, "@chunk " + NAME_30, "@end")
        self.faults(1, 2, "@chunk " + NAME_30 + "3", "@end")
        self.reads(1, "@file " + PATH_40, "@end")
        self.faults(1, 2, "@file " + PATH_40 + "3", "@end")
        self.reads(1, "@chunk a(" + SHORT_12 + ")", "@end")
        self.faults(1, 2, "@chunk a(" + SHORT_12 + "3)", "@end")
        self.reads(1, "@chunk " + NAME_30 + "(" + SHORT_12 + ", b, c, d)", "@end")


class Reason3(CallsTest):
    def refused(self, line):
        self.faults(2, 3, "@chunk a(x)", line, "@end")

    def taken(self, line):
        self.reads(1, "@chunk a(x)", line, "@end")

    def test_no_lines(self):
        for line in ["@", "a@", "@@@", "a@b", "@ @", "@chunk b", "@file b", "@end ", "@endx", "@if", "@if ",
                     "@if  a", "@if A", "@if a b", "@if a ", "@if 1", "@if a-b", "@else ", "@else a", "@fi ", "@fi a",
                     "@iff a", "@elsee", "@fia"]:
            self.refused(line)

    def test_no_uses(self):
        for line in ["@{", "@{}", "@{a", "@{ a}", "@{a }", "@{a  b}", "@{A}", "@{a(}", "@{a)}", "@{a(x}", "@{a()",
                     "@{a(x)", "@{a(x) }", "@{a (x)}", "@{a(x)y}", "@{a(x)(y)}", "@{a(x,y)}", "@{a(x , y)}",
                     "@{a(x,  y)}", "@{a( x)}", "@{a(x )}", "@{a( )}", "@{a(,)}", "@{a(x,)}", "@{a(,  )}", "@{a(())}",
                     "@{a({)}", "@{a(})}", "@{a(@)}", "@{a(@@)}", "@{a(@<x>)}", "@{a(@{b})}", "@{(x)}", "@{()}", "@{a>",
                     "@{a_b}", "@{a(x)}}@", "x@{a(y)"]:
            self.refused(line)

    def test_no_parameters(self):
        for line in ["@<", "@<>", "@<x", "@< x>", "@<x >", "@<X>", "@<1>", "@<x-y>", "@<x}", "@<x y>", "@>x<", "@<x@>"]:
            self.refused(line)

    def test_code_lines(self):
        for line in ["", " ", "x", "@@", "@@@@", "@@if b", "@@end", "@@chunk b", " @@end", "@<x>", "@<x>@<x>", "a@<x>b", "@@<x",
                     "@@{", "@@@<x>", "@@@{b}", "@{b}@@", "@{b}@{b}@<x>c", "@{b}}", "{b}", "<x>", "@<x>>", "} > ) ( , {",
                     "@{b()}", "@{b(x)}", "@{b(x, y)}", "@{b(, )}", "@{b(, x)}", "@{b(x, )}", "@{b(, , )}", "@{b(x y)}",
                     "@{b(x  y)}", "@{b(<x>)}", "@{0}", "@{-}", "@{b c(x)}", "@{b(" + ", ".join("x" * 40) + ")}"]:
            self.taken(line)

    def test_every_byte_of_an_argument(self):
        for byte in range(32, 127):
            middle = list(b"@chunk a\n@{b(x") + [byte] + list(b"x)}\n@end\n")
            expected = [2, 3] if byte in b",(){}@" else [0, 1]
            self.assertEqual(run(read_text(middle)), [expected], byte)

    def test_greatest_lengths_and_one_beyond(self):
        self.taken("@{" + NAME_30 + "}")
        self.refused("@{" + NAME_30 + "3}")
        self.taken("@{" + NAME_30 + "(x)}")
        self.refused("@{" + NAME_30 + "3(x)}")
        self.assertEqual(len(ARGUMENT_40), 40)
        self.taken("@{b(" + ARGUMENT_40 + ")}")
        self.refused("@{b(" + ARGUMENT_40 + "3)}")
        self.taken("@{b(, " + ARGUMENT_40 + ")}")
        self.refused("@{b(, " + ARGUMENT_40 + "3)}")
        self.reads(1, "@chunk a", "@if " + SHORT_12, "@fi", "@end")
        self.faults(2, 3, "@chunk a", "@if " + SHORT_12 + "3", "@fi", "@end")
        self.reads(1, "@chunk a(" + SHORT_12 + ")", "@<" + SHORT_12 + ">", "@end")
        self.faults(2, 3, "@chunk a(" + SHORT_12 + ")", "@<" + SHORT_12 + "3>", "@end")

    def test_comes_before_the_later_reasons(self):
        self.faults(2, 3, "@chunk a", "@<x>@", "@end")
        self.faults(3, 3, "@chunk a", "@if b", "@end ", "@fi")

    def test_doubled_ats_hide_no_use(self):
        self.gives([read("@file f", "@@{b}@@@{c}", "@end", "@chunk b", "@end", "@chunk c", "@end"), needs(1, "f")],
                   [texts("c")])


class Reason4(CallsTest):
    def test_end_while_a_condition_is_open(self):
        self.faults(3, 4, "@chunk a", "@if b", "@end")
        self.faults(4, 4, "@chunk a", "@if b", "@else", "@end")
        self.faults(5, 4, "@chunk a", "@if b", "@if c", "@fi", "@end", "@fi")

    def test_else_and_end_that_belong_to_none(self):
        self.faults(2, 4, "@chunk a", "@else", "@end")
        self.faults(2, 4, "@chunk a", "@fi", "@end")
        self.faults(4, 4, "@chunk a", "@if b", "@fi", "@fi", "@end")
        self.faults(4, 4, "@chunk a", "@if b", "@fi", "@else", "@end")

    def test_an_else_behind_an_else(self):
        self.faults(4, 4, "@chunk a", "@if b", "@else", "@else", "@fi", "@end")
        self.faults(6, 4, "@chunk a", "@if b", "@else", "@if c", "@fi", "@else", "@fi", "@end")

    def test_each_condition_has_its_own_else(self):
        self.reads(1, "@chunk a", "@if b", "@if c", "@else", "@fi", "@else", "@if d", "@else", "@fi", "@fi", "@end")
        self.reads(1, "@chunk a", "@if b", "@else", "@fi", "@if b", "@else", "@fi", "@end")

    def test_conditions_do_not_go_from_part_to_part(self):
        self.faults(5, 4, "@chunk a", "@end", "x", "@chunk a", "@fi", "@end")

    def test_six_open_and_a_seventh(self):
        ifs = ["@if c%d" % number for number in range(7)]
        self.reads(1, "@chunk a", *ifs[:6], *["@fi"] * 6, "@end")
        self.faults(8, 4, "@chunk a", *ifs, *["@fi"] * 7, "@end")
        self.reads(1, "@chunk a", *ifs[:6], "@fi", ifs[6], *["@fi"] * 6, "@end")
        self.faults(9, 4, "@chunk a", *ifs[:6], "@else", ifs[6], *["@fi"] * 7, "@end")
        self.faults(8, 4, "@chunk a", *["@if same"] * 7, *["@fi"] * 7, "@end")


class Reason5(CallsTest):
    def test_parameters_that_the_header_does_not_tell(self):
        self.faults(2, 5, "@chunk a", "@<x>", "@end")
        self.faults(2, 5, "@file a", "@<x>", "@end")
        self.faults(3, 5, "@chunk a(x)", "@<x>", "@<x>@<y>", "@end")
        self.faults(2, 5, "@chunk a(x)", "b @{c} @<xx>", "@end")
        self.faults(4, 5, "@chunk a(x)", "@end", "@chunk b(y)", "@<x>", "@end")

    def test_parameters_that_it_tells(self):
        self.reads(1, "@chunk a(x, y)", "@<y>@<x>@<y>", "@end")
        self.reads(1, "@chunk a(x)", "@if x", "@<x>", "@fi", "@end")

    def test_a_setting_is_no_parameter(self):
        self.reads(1, "@chunk a", "@if x", "@fi", "@end")
        self.faults(3, 5, "@chunk a", "@if x", "@<x>", "@fi", "@end")


class Reason7(CallsTest):
    def test_other_parameters(self):
        for other in ["", "(x)", "(y, x)", "(x, z)", "(x, y, z)"]:
            self.faults(3, 7, "@chunk a(x, y)", "@end", "@chunk a" + other, "@end")
        self.faults(4, 7, "@chunk a", "@end", "x", "@chunk a(x)", "@end")

    def test_the_same_parameters(self):
        self.reads(2, "@chunk a(x, y)", "@end", "@chunk a(x, y)", "@end")
        self.reads(3, "@chunk a(x)", "@end", "@chunk b", "@end", "@chunk a(x)", "@end")

    def test_a_file_has_no_name(self):
        self.reads(2, "@file a", "@end", "@chunk a(x)", "@end")
        self.reads(3, "@chunk a(x)", "@end", "@file a", "@end", "@file a", "@end")

    def test_a_use_is_no_part(self):
        self.reads(2, "@file f", "@{a(x, y)}", "@end", "@chunk a(x)", "@end")


class Reason8(CallsTest):
    def test_end_is_missing(self):
        self.faults(2, 8, "@chunk a")
        self.faults(3, 8, "@file a", "")
        self.faults(4, 8, "@file a", "@if b", "x")
        self.faults(5, 8, "@file a", "@end", "words", "@chunk b")

    def test_a_line_with_a_fault_comes_first(self):
        self.faults(2, 3, "@chunk a", "@")
        self.faults(2, 3, "@chunk a", "@chunk b", "@end")


class FirstFault(CallsTest):
    def test_the_first_line_counts_not_the_first_reason(self):
        self.faults(3, 5, "@chunk a", "x", "@<y>", "@", "\x7f", "@end")
        self.faults(1, 2, "@nothing", "x" * 201)

    def test_a_faulty_line_is_told_by_its_number_in_the_text(self):
        self.faults(7, 3, "", "", "@chunk a", "@end", "", "@chunk a", "@else x", "@end")
        self.assertEqual(run(read_text(ended("a", "b") + "c")), [[3, 1]])


class Keeping(CallsTest):
    first = read("@chunk a", "@{b}", "@end")
    kept = [node_rows((0, "a", 1, 0)), [1, 0, 0, 0], [1, 1, 0, 1]]

    def test_a_fault_changes_nothing(self):
        for bad in [read("@chunk c", "@end", "@"), read_text("x"), read("@chunk c"), read_text([200, 10])]:
            self.gives([self.first, bad, nodes(), unknown(), size()], self.kept)

    def test_a_refusal_changes_nothing(self):
        bad = read_text("\n" * 20001)
        self.gives([self.first, bad, nodes(), unknown(), size()], [[-6]] + self.kept)

    def test_a_good_read_takes_the_place_of_the_last(self):
        self.gives([self.first, read("x", "@chunk c(x)", "@end", "@chunk c(x)", "@end"), nodes(), unknown(), size()],
                   [[0, 3], node_rows((0, "c", 2, 1)), [0], [1, 0, 0, 0]])

    def test_an_empty_text_takes_it_too(self):
        self.gives([self.first, read_text(""), nodes(), unknown(), size()], [[0, 0], [0], [0], [0, 0, 0, 0]])

    def test_parameters_of_the_last_document_do_not_count(self):
        self.gives([self.first, read("@chunk a(x)", "@end")], [[0, 1]])
