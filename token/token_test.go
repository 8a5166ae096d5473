package token_test

import (
	"math"
	"slices"
	"strings"
	"testing"

	"anceps/api"
	"anceps/token"
)

// The bytes of the small languages, written out, so that the tests do not share the rules of the program.
const (
	small  = "abcdefghijklmnopqrstuvwxyz"
	digits = "0123456789"
	signs  = "{}()[]/;:~@=^,.|+*<>-"
	white  = " \t\n\r"
	none   = "ABCDEFGHIJKLMNOPQRSTUVWXYZ" + "!$%&'?\\_`"
)

func name(s string) api.Token   { return api.Token{Kind: api.TokenName, Text: s} }
func number(s string) api.Token { return api.Token{Kind: api.TokenNumber, Text: s} }
func quoted(s string) api.Token { return api.Token{Kind: api.TokenString, Text: s} }
func sign(s string) api.Token   { return api.Token{Kind: api.TokenSign, Text: s} }

// in puts tokens into a line.
func in(line int, l ...api.Token) []api.Token {
	l = slices.Clone(l)
	for i := range l {
		l[i].Line = line
	}
	return l
}

// P5.1: every byte alone, between names, and as the text of a token of each kind.
func TestBytes(t *testing.T) {
	for b := range 256 {
		s := string([]byte{byte(b)})
		var alone, between []api.Token
		e := api.OK
		switch {
		case strings.Contains(small, s):
			alone, between = in(1, name(s)), in(1, name("a"+s+"b"))
		case strings.Contains(digits, s):
			alone, between = in(1, number(s)), in(1, name("a"+s+"b"))
		case s == "-":
			alone, between = in(1, sign(s)), in(1, name("a-b"))
		case strings.Contains(signs, s):
			alone, between = in(1, sign(s)), in(1, name("a"), sign(s), name("b"))
		case s == "\n":
			between = append(in(1, name("a")), in(2, name("b"))...)
		case strings.Contains(white, s):
			between = in(1, name("a"), name("b"))
		case s == "#":
			between = in(1, name("a"))
		default:
			e = api.ErrSyntax
		}
		check(t, s, alone, e)
		check(t, "a"+s+"b", between, e)
		checkByteInTokens(t, b, s)
	}
	if len(small+digits+signs+none)+len(`"# `) != 126-32+1 {
		t.Error("a printable byte is missing")
	}
}

// check compares Tokens of a text, with an error in the line 1 if there is one.
func check(t *testing.T, s string, want []api.Token, e api.Errno) {
	t.Helper()
	line := 0
	if e != api.OK {
		line = 1
	}
	if l, at, err := token.Tokens(s); !slices.Equal(l, want) || at != line || err != e {
		t.Errorf("%q: %v, %d, %d", s, l, at, err)
	}
}

func checkByteInTokens(t *testing.T, b int, s string) {
	t.Helper()
	isSmall, isDigit := strings.Contains(small, s), strings.Contains(digits, s)
	if token.IsName(s) != isSmall || token.IsName("a"+s) != (isSmall || isDigit) || token.IsName("a-"+s) != (isSmall || isDigit) ||
		token.IsName("a"+s+"b") != (isSmall || isDigit || s == "-") || token.IsName(s+"a") != isSmall {
		t.Errorf("IsName, byte %d", b)
	}
	for value, before := range []string{"", "1"} {
		want, ok := 0, isDigit
		if ok {
			want = 10*value + int(s[0]-'0')
		}
		if n, is := token.Number(before + s); n != want || is != ok {
			t.Errorf("Number, %q, byte %d: %d, %v", before, b, n, is)
		}
	}
	text, e := "", api.ErrSyntax
	if 32 <= b && b <= 126 && b != 34 {
		text, e = `"`+s+`"`, api.OK
	}
	if q, err := token.Quote(s); q != text || err != e {
		t.Errorf("Quote, byte %d: %q, %d", b, q, err)
	}
	for i, is := range []bool{isSmall, isDigit, e == api.OK, strings.Contains(signs, s)} {
		kind := []int{api.TokenName, api.TokenNumber, api.TokenString, api.TokenSign}[i]
		_, err := token.Write([]api.Token{{Kind: kind, Text: s}})
		if (err == api.OK) != is || err != api.OK && err != api.ErrInvalid {
			t.Errorf("Write, kind %d, byte %d: %d", kind, b, err)
		}
	}
}

// P5.1: the tokens of texts.
func TestTokens(t *testing.T) {
	name20, inside60 := "a"+strings.Repeat("-b", 9)+"c", strings.Repeat("#'", 30)
	for i, c := range []struct {
		s    string
		want []api.Token
	}{
		{"", nil}, {" \t\r\n \n", nil}, {"#", nil}, {"# ?", nil}, {"#\n#\xff\n", nil}, {"#\"\n", nil},
		{"foot d = - u u; # dactyl", in(1, name("foot"), name("d"), sign("="), sign("-"), name("u"), name("u"), sign(";"))},
		{"a-b - c", in(1, name("a-b"), sign("-"), name("c"))},
		{"a-", in(1, name("a"), sign("-"))},
		{"a--b", in(1, name("a"), sign("-"), sign("-"), name("b"))},
		{"a-b-c-", in(1, name("a-b-c"), sign("-"))},
		{"a- b", in(1, name("a"), sign("-"), name("b"))},
		{"a-;", in(1, name("a"), sign("-"), sign(";"))},
		{"a-1", in(1, name("a-1"))}, {"a1-2-b3", in(1, name("a1-2-b3"))}, {"z9", in(1, name("z9"))},
		{"a\"b\"", in(1, name("a"), quoted("b"))},
		{"-a", in(1, sign("-"), name("a"))}, {"-1", in(1, sign("-"), number("1"))}, {"1-2", in(1, number("1"), sign("-"), number("2"))},
		{"12ab", in(1, number("12"), name("ab"))}, {"0a0", in(1, number("0"), name("a0"))}, {"1.20", in(1, number("1"), sign("."), number("20"))},
		{"0", in(1, number("0"))}, {"0 0", in(1, number("0"), number("0"))}, {"999999", in(1, number("999999"))}, {"100000", in(1, number("100000"))},
		{`""`, in(1, quoted(""))}, {`"a""b"`, in(1, quoted("a"), quoted("b"))}, {`" A?\~# 007 "`, in(1, quoted(` A?\~# 007 `))},
		{`"#"#"`, in(1, quoted("#"))}, {`"` + inside60 + `"`, in(1, quoted(inside60))},
		{"((/)", in(1, sign("("), sign("("), sign("/"), sign(")"))},
		{name20, in(1, name(name20))}, {name20 + "-", in(1, name(name20), sign("-"))}, {name20 + "--", in(1, name(name20), sign("-"), sign("-"))},
		{name20 + ";a", in(1, name(name20), sign(";"), name("a"))}, {name20 + " a", in(1, name(name20), name("a"))},
		{"a#b\nc", append(in(1, name("a")), in(2, name("c"))...)},
		{"a-#b\nc", append(in(1, name("a"), sign("-")), in(2, name("c"))...)},
		{"a # b \" # \n\n1\r\n\"#\" ; #", slices.Concat(in(1, name("a")), in(3, number("1")), in(4, quoted("#"), sign(";")))},
		{"\n\na\rb", in(3, name("a"), name("b"))},
		{"#\r#a\nb", in(2, name("b"))},
		{"a\n\tb\nc", slices.Concat(in(1, name("a")), in(2, name("b")), in(3, name("c")))},
	} {
		if l, line, e := token.Tokens(c.s); !slices.Equal(l, c.want) || line != 0 || e != api.OK {
			t.Errorf("row %d: %v, %d, %d", i, l, line, e)
		}
	}
}

// P5.1: the errors of texts, with their lines.
func TestTokensErrors(t *testing.T) {
	full := strings.Repeat("a ", 10000)
	name21, inside61 := strings.Repeat("a", 21), strings.Repeat("?", 61)
	for i, c := range []struct {
		s    string
		line int
		e    api.Errno
	}{
		{full + " ", 0, api.ErrTooLarge}, {"?" + full, 0, api.ErrTooLarge}, {strings.Repeat("\n", 20001), 0, api.ErrTooLarge},
		{"#" + full, 0, api.ErrTooLarge}, {strings.Repeat("a", 20001), 0, api.ErrTooLarge},
		{full[1:] + "?", 1, api.ErrSyntax}, {strings.Repeat("\n", 19999) + "?", 20000, api.ErrSyntax},
		{name21, 1, api.ErrTooLarge}, {"\n" + name21, 2, api.ErrTooLarge}, {strings.Repeat("a", 20000), 1, api.ErrTooLarge},
		{"a" + strings.Repeat("-b", 10), 1, api.ErrTooLarge}, {name21[1:] + "-b", 1, api.ErrTooLarge}, {name21 + "?", 1, api.ErrTooLarge},
		{"a" + strings.Repeat("1", 20), 1, api.ErrTooLarge},
		{"1000000", 1, api.ErrTooLarge}, {"0000000", 1, api.ErrTooLarge}, {"a;\n0000001", 2, api.ErrTooLarge}, {strings.Repeat("1", 20000), 1, api.ErrTooLarge},
		{"007", 1, api.ErrSyntax}, {"00", 1, api.ErrSyntax}, {"01", 1, api.ErrSyntax}, {"000000", 1, api.ErrSyntax}, {"a-b 01", 1, api.ErrSyntax},
		{"a\n 1 00", 2, api.ErrSyntax}, {"-01", 1, api.ErrSyntax}, {"1.05", 1, api.ErrSyntax}, {"00a", 1, api.ErrSyntax},
		{`"`, 1, api.ErrSyntax}, {`"a`, 1, api.ErrSyntax}, {"\"a\n\"", 1, api.ErrSyntax}, {"\n\n\"a\n\"", 3, api.ErrSyntax}, {"\"\t\"", 1, api.ErrSyntax},
		{"\"a\rb\"", 1, api.ErrSyntax}, {"\"\x7f\"", 1, api.ErrSyntax}, {"\"\x1f\"", 1, api.ErrSyntax}, {"\"\xc3\xa4\"", 1, api.ErrSyntax},
		{`"a" "`, 1, api.ErrSyntax}, {`"a""`, 1, api.ErrSyntax}, {`"#`, 1, api.ErrSyntax}, {"\n\"# \n\n", 2, api.ErrSyntax},
		{`"` + inside61 + `"`, 1, api.ErrTooLarge}, {"\n" + `"` + inside61 + `"` + "\n", 2, api.ErrTooLarge},
		{`"` + inside61, 1, api.ErrSyntax}, {`"` + inside61 + "\n\"", 1, api.ErrSyntax}, {`"` + strings.Repeat("a", 19998) + `"`, 1, api.ErrTooLarge},
		{`"` + strings.Repeat("a", 19999), 1, api.ErrSyntax}, {`"` + inside61 + "\x00\"", 1, api.ErrSyntax},
		{"?", 1, api.ErrSyntax}, {"aB", 1, api.ErrSyntax}, {"a-B", 1, api.ErrSyntax}, {"a_b", 1, api.ErrSyntax}, {"\u2013", 1, api.ErrSyntax},
		{"#\n?", 2, api.ErrSyntax}, {"# ?\n\n \t\r!", 3, api.ErrSyntax}, {"\r?", 1, api.ErrSyntax}, {"\v", 1, api.ErrSyntax}, {"\x00", 1, api.ErrSyntax},
		// The first error counts, not the gravest.
		{"?\n" + name21, 1, api.ErrSyntax}, {name21 + "\n?", 1, api.ErrTooLarge}, {"1000000 007", 1, api.ErrTooLarge}, {"007 1000000", 1, api.ErrSyntax},
		{"\"a\n? 1000000", 1, api.ErrSyntax}, {"a\n1000000\n\"", 2, api.ErrTooLarge}, {"a b c\n;\n\"" + inside61 + "\" ?", 3, api.ErrTooLarge},
	} {
		if l, line, e := token.Tokens(c.s); len(l) != 0 || line != c.line || e != c.e {
			t.Errorf("row %d: %v, %d, %d", i, l, line, e)
		}
	}
	if l, line, e := token.Tokens(full); len(l) != 10000 || line != 0 || e != api.OK {
		t.Errorf("a full text: %d tokens, %d, %d", len(l), line, e)
	}
}

// P5.1: the text of tokens.
func TestWrite(t *testing.T) {
	for i, c := range []struct {
		l    []api.Token
		want string
	}{
		{nil, ""}, {[]api.Token{}, ""}, {in(1, name("a")), "a"}, {in(1, quoted("")), `""`}, {in(1, quoted("a b")), `"a b"`},
		{in(1, name("a"), sign("-"), name("b")), "a - b"}, {in(1, number("1"), number("0"), number("999999")), "1 0 999999"},
		{in(7, quoted("#"), sign(";"), quoted(" ")), `"#" ; " "`}, {in(-1, name("foot"), name("d"), sign("=")), "foot d ="},
		{append(in(9, name("a-b")), in(math.MinInt, sign("{"))...), "a-b {"}, {in(0, sign("<"), sign(">")), "< >"},
		{in(1, quoted(strings.Repeat("'", 60))), `"` + strings.Repeat("'", 60) + `"`},
		{in(1, name(strings.Repeat("z", 20)), sign("*")), strings.Repeat("z", 20) + " *"},
	} {
		kept := slices.Clone(c.l)
		if s, e := token.Write(c.l); s != c.want || e != api.OK {
			t.Errorf("row %d: %q, %d", i, s, e)
		}
		if !slices.Equal(c.l, kept) {
			t.Errorf("row %d: the tokens were changed", i)
		}
	}
}

// P5.1: a list with a wrong token is invalid, wherever it stands, even if the text would be too large.
func TestWriteInvalid(t *testing.T) {
	full := in(1, slices.Repeat([]api.Token{sign("-")}, 10001)...)
	for i, wrong := range []api.Token{
		{}, {Kind: 0, Text: "a"}, {Kind: 5, Text: "a"}, {Kind: -1, Text: "a"}, {Kind: 5, Text: ";"}, {Kind: math.MaxInt, Text: "a"}, {Kind: math.MinInt, Text: "1"},
		name(""), name("A"), name("a-"), name("a--b"), name("-a"), name("1"), name("a b"), name(" a"), name("a\n"), name(";"), name(strings.Repeat("a", 21)), name(`"a"`),
		number(""), number("a"), number("01"), number("00"), number("1000000"), number("-1"), number("+1"), number(" 1"), number("1_0"), number("0x1"), number("1a"),
		quoted(`"`), quoted(`"a"`), quoted("a\n"), quoted("\x7f"), quoted("\xc3\xa4"), quoted("\x1f"), quoted(strings.Repeat("a", 61)), quoted(strings.Repeat("a", 61) + "\""),
		sign(""), sign("--"), sign("a"), sign("1"), sign("#"), sign(`"`), sign(" "), sign("{}"), sign("?"), sign("\x00"), sign("- "), sign("\u2013"),
	} {
		for j, l := range [][]api.Token{{wrong}, {name("a"), wrong}, {wrong, name("a")}, append(slices.Clone(full), wrong), append([]api.Token{wrong}, full...)} {
			if s, e := token.Write(l); s != "" || e != api.ErrInvalid {
				t.Errorf("row %d, list %d: %q, %d", i, j, s, e)
			}
		}
	}
}

// P5.1: a text of 20000 bytes can be written, and no larger one.
func TestWriteSizes(t *testing.T) {
	many := slices.Repeat([]api.Token{name("a")}, 10000)
	strs := slices.Repeat([]api.Token{quoted(strings.Repeat("b", 60))}, 317) // 317 times 63 bytes, the last space aside
	for i, c := range []struct {
		l    []api.Token
		size int
	}{
		{many, 19999}, {append(many[:9999:9999], name("ab")), 20000}, {append(many[:9999:9999], name("abc")), 0}, {append(many[:9999:9999], quoted("")), 20000},
		{append(many[:9999:9999], quoted("a")), 0}, {append(many[:10000:10000], name("a")), 0}, {append(many[:9999:9999], number("10")), 20000},
		{append(strs[:317:317], name(strings.Repeat("c", 20))), 19991}, {append(strs[:317:317], name(strings.Repeat("c", 20)), number("123456"), sign("-")), 20000},
		{append(strs[:317:317], name(strings.Repeat("c", 20)), number("123456"), name("aa")), 0}, {append(strs[:317:317], strs[0]), 0},
		{slices.Repeat([]api.Token{name("a")}, 1000000), 0},
	} {
		want := api.OK
		if c.size == 0 {
			want = api.ErrTooLarge
		}
		if s, e := token.Write(c.l); len(s) != c.size || e != want {
			t.Errorf("row %d: %d bytes, %d", i, len(s), e)
		}
	}
}

// P5.1
func TestIsName(t *testing.T) {
	for _, s := range []string{"a", "z", "a-b", "a1", "a-1", "foot", "a-b-c", "a0-0a", strings.Repeat("a", 20), "a" + strings.Repeat("9", 19), "a" + strings.Repeat("-b", 9)} {
		if !token.IsName(s) {
			t.Errorf("%q", s)
		}
	}
	for _, s := range []string{"", "A", "1", "1a", "-", "-a", "a-", "a--b", "a-b-", "a b", " a", "a ", "a\n", "a_b", "aB", "a.", "\xc3\xa4", "a\xff", "a-\x00",
		strings.Repeat("a", 21), "a" + strings.Repeat("-b", 10), strings.Repeat("a", 20) + "-", strings.Repeat("a", 1000000)} {
		if token.IsName(s) {
			t.Errorf("%q", s)
		}
	}
}

// P5.1
func TestNumber(t *testing.T) {
	for i, c := range []struct {
		s    string
		want int
		ok   bool
	}{
		{"0", 0, true}, {"7", 7, true}, {"10", 10, true}, {"120", 120, true}, {"999999", 999999, true}, {"100000", 100000, true}, {"123456", 123456, true},
		{"", 0, false}, {"00", 0, false}, {"01", 0, false}, {"007", 0, false}, {"000000", 0, false}, {"1000000", 0, false}, {"0000001", 0, false},
		{"a", 0, false}, {"1a", 0, false}, {"a1", 0, false}, {"-1", 0, false}, {"+1", 0, false}, {"1 ", 0, false}, {" 1", 0, false}, {"1_0", 0, false},
		{"1.0", 0, false}, {"0x1", 0, false}, {"1e2", 0, false}, {"\u0661", 0, false}, {strings.Repeat("9", 1000000), 0, false},
	} {
		if n, ok := token.Number(c.s); n != c.want || ok != c.ok {
			t.Errorf("row %d: %d, %v", i, n, ok)
		}
	}
}

// P5.1: too large comes before what may not stand in quotes.
func TestQuote(t *testing.T) {
	for i, c := range []struct {
		s, want string
		e       api.Errno
	}{
		{"", `""`, api.OK}, {"a", `"a"`, api.OK}, {" arma; # 'virum'\\ ", `" arma; # 'virum'\ "`, api.OK}, {" ~", `" ~"`, api.OK},
		{strings.Repeat("a", 60), `"` + strings.Repeat("a", 60) + `"`, api.OK}, {strings.Repeat("a", 61), "", api.ErrTooLarge},
		{`"`, "", api.ErrSyntax}, {`a"b`, "", api.ErrSyntax}, {"a\n", "", api.ErrSyntax}, {"\t", "", api.ErrSyntax}, {"\x7f", "", api.ErrSyntax}, {"\xff", "", api.ErrSyntax},
		{strings.Repeat(`"`, 60), "", api.ErrSyntax}, {strings.Repeat(`"`, 61), "", api.ErrTooLarge}, {strings.Repeat("a", 59) + "\n", "", api.ErrSyntax},
		{strings.Repeat("a", 60) + "\n", "", api.ErrTooLarge}, {strings.Repeat("\xff", 1000000), "", api.ErrTooLarge},
	} {
		if s, e := token.Quote(c.s); s != c.want || e != c.e {
			t.Errorf("row %d: %q, %d", i, s, e)
		}
	}
}

// P5.1
func TestLines(t *testing.T) {
	for i, c := range []struct {
		s    string
		want []string
	}{
		{"", nil}, {"\n", []string{""}}, {"\n\n", []string{"", ""}}, {"a", []string{"a"}}, {"a\n", []string{"a"}}, {"a\n\n", []string{"a", ""}},
		{"a\nb", []string{"a", "b"}}, {"\na", []string{"", "a"}}, {"a\n\nb\n", []string{"a", "", "b"}}, {"a\r\nb\r", []string{"a\r", "b\r"}},
		{" \n\x00\xff\n#\"", []string{" ", "\x00\xff", "#\""}}, {strings.Repeat("\n", 100000), make([]string, 100000)},
		{strings.Repeat("?", 30000), []string{strings.Repeat("?", 30000)}},
	} {
		if l := token.Lines(c.s); !slices.Equal(l, c.want) {
			t.Errorf("row %d: %q", i, l)
		}
	}
}

// P5.1: lists are compared without their lines, and need not be tokens of a text.
func TestSame(t *testing.T) {
	for i, c := range []struct {
		a, b []api.Token
		want bool
	}{
		{nil, nil, true}, {nil, []api.Token{}, true}, {nil, in(1, name("a")), false}, {in(1, name("a")), nil, false},
		{in(1, name("a")), in(1, name("a")), true}, {in(1, name("a"), sign(";")), append(in(1, name("a")), in(9, sign(";"))...), true},
		{in(1, name("a")), in(2, name("a")), true}, {in(1, name("a")), in(1, name("b")), false}, {in(1, name("a")), in(1, quoted("a")), false},
		{in(1, number("1")), in(1, quoted("1")), false}, {in(1, name("a")), in(1, name("a"), name("a")), false}, {in(1, name("a"), name("b")), in(1, name("a")), false},
		{in(1, name("a"), name("b")), in(1, name("b"), name("a")), false}, {in(1, name("ab")), in(1, name("a"), name("b")), false},
		{in(1, name("a"), name("b")), in(1, name("a"), name("c")), false}, {in(1, name("a"), name("c")), in(1, name("b"), name("c")), false},
		{[]api.Token{{}}, []api.Token{{Line: 5}}, true}, {[]api.Token{{Kind: -1, Text: "?"}}, []api.Token{{Kind: -1, Text: "?"}}, true},
		{[]api.Token{{Kind: 7}}, []api.Token{{Kind: 8}}, false}, {[]api.Token{{Kind: 7}}, nil, false}, {in(1, name("01")), in(1, name("1")), false},
	} {
		if is := token.Same(c.a, c.b); is != c.want {
			t.Errorf("row %d: %v", i, is)
		}
	}
}
