package tests

import (
	"fmt"
	"math"
	"slices"
	"strconv"
	"strings"
	"testing"

	"loop.example/g03406/impl"
)

// wordsOver returns every string of at most length bytes over the alphabet, the empty one included.
func wordsOver(alphabet string, length int) []string {
	all := []string{""}
	last := []string{""}
	for range length {
		var next []string
		for _, w := range last {
			for i := range len(alphabet) {
				next = append(next, w+alphabet[i:i+1])
			}
		}
		all = append(all, next...)
		last = next
	}
	return all
}

func refuseInt(t *testing.T, s string) {
	t.Helper()
	if n, ok := impl.ParseInt(s); ok || n != 0 {
		t.Errorf("ParseInt(%q) = %d, %t", s, n, ok)
	}
}

func refuseQuoted(t *testing.T, s string) {
	t.Helper()
	if u, ok := impl.UnquoteString(s); ok || u != "" {
		t.Errorf("UnquoteString(%q) = %q, %t", s, u, ok)
	}
}

func refuseFields(t *testing.T, s string) {
	t.Helper()
	if l, ok := impl.SplitFields(s); ok || len(l) != 0 {
		t.Errorf("SplitFields(%q) = %q, %t", s, l, ok)
	}
}

func TestFormatInt(t *testing.T) {
	cases := map[int]string{
		0:              "0",
		7:              "7",
		-1:             "-1",
		10:             "10",
		-120:           "-120",
		999999999:      "999999999",
		1000000000:     "1000000000",
		-1000000000:    "-1000000000",
		math.MaxInt64:  "9223372036854775807",
		-math.MaxInt64: "-9223372036854775807",
		math.MinInt64:  "-9223372036854775808",
	}
	for n, want := range cases {
		if s := impl.FormatInt(n); s != want {
			t.Errorf("FormatInt(%d) = %q, not %q", n, s, want)
		}
	}
}

func TestParseIntReadsFormatInt(t *testing.T) {
	list := []int{123456789, 99999999, 100000000, 999999998, 999999999}
	for n := range 2500 {
		list = append(list, n)
	}
	for _, n := range list {
		for _, m := range []int{n, -n} {
			s := strconv.Itoa(m)
			if got, ok := impl.ParseInt(s); got != m || !ok {
				t.Errorf("ParseInt(%q) = %d, %t", s, got, ok)
			}
			if got, ok := impl.ParseInt(impl.FormatInt(m)); got != m || !ok {
				t.Errorf("ParseInt of FormatInt(%d) = %d, %t", m, got, ok)
			}
		}
	}
}

func TestParseIntRefusesTenDigits(t *testing.T) {
	for _, s := range []string{
		"1000000000", "-1000000000", "9999999999", "-9999999999", "1234567890",
		"0000000001", "-0000000001", "2147483648", "4294967296",
		"10000000000", "9223372036854775807", "-9223372036854775808",
		"18446744073709551616", "18446744073709551617", "100000000000000000000",
		strings.Repeat("9", 1000), strings.Repeat("0", 1000),
	} {
		refuseInt(t, s)
	}
}

func TestParseIntRefusesOtherTexts(t *testing.T) {
	for _, s := range []string{
		"", "-", "+", "--1", "-+1", "+1", "+0", "-0", "00", "01", "007", "-01", "-00",
		" 1", "1 ", "1\n", "\x001", "1\x00", "1 2", "1-", "1-2", "1_000", "1,000", "1.0", "1e3", "1/1",
		"0x1", "0b1", "0o1", "a", "1a", "a1", "NA", "Inf", "TRUE", "\xff", "1\xff",
		"\u0661", "\uff11", "\u22121",
	} {
		refuseInt(t, s)
	}
}

func TestParseIntAcceptsOneTextForEachNumber(t *testing.T) {
	for _, s := range wordsOver("-+0129a ", 4) {
		if n, ok := impl.ParseInt(s); ok {
			if impl.FormatInt(n) != s {
				t.Errorf("ParseInt(%q) = %d", s, n)
			}
		} else {
			refuseInt(t, s)
		}
	}
}

func TestQuoteStringOfEachByte(t *testing.T) {
	for c := range 256 {
		want := fmt.Sprintf("\\x%02x", c)
		switch {
		case c == '\n':
			want = "\\n"
		case c == '"':
			want = "\\\""
		case c == '\\':
			want = "\\\\"
		case c >= 32 && c <= 126:
			want = string([]byte{byte(c)})
		}
		if s := impl.QuoteString(string([]byte{byte(c)})); s != "\""+want+"\"" {
			t.Errorf("byte %d: %q, not %q", c, s, want)
		}
	}
}

func TestQuoteString(t *testing.T) {
	cases := map[string]string{
		"":                 `""`,
		"abc":              `"abc"`,
		"a\x01":            `"a\x01"`,
		" ~!'`":            "\" ~!'`\"",
		"\x00\t\r\x1f\x7f": `"\x00\x09\x0d\x1f\x7f"`,
		"a\nb":             `"a\nb"`,
		"\\n":              `"\\n"`,
		"\\\"":             `"\\\""`,
		"\u00e9":           `"\xc3\xa9"`,
		"\xc3(":            `"\xc3("`,
		"\U0001f600":       `"\xf0\x9f\x98\x80"`,
		"\xff\x80":         `"\xff\x80"`,
	}
	for s, want := range cases {
		if got := impl.QuoteString(s); got != want {
			t.Errorf("QuoteString(%q) = %s, not %s", s, got, want)
		}
		if back, ok := impl.UnquoteString(want); back != s || !ok {
			t.Errorf("UnquoteString(%s) = %q, %t", want, back, ok)
		}
	}
}

func TestUnquoteStringReadsQuoteString(t *testing.T) {
	list := wordsOver("a\"\\nx0\n\x01\xff", 4)
	for a := range 256 {
		for b := range 256 {
			list = append(list, string([]byte{byte(a), byte(b)}))
		}
	}
	list = append(list, strings.Repeat("\"\\\n\x7f", 500))
	for _, s := range list {
		if u, ok := impl.UnquoteString(impl.QuoteString(s)); u != s || !ok {
			t.Fatalf("UnquoteString of QuoteString(%q) = %q, %t", s, u, ok)
		}
	}
}

func TestUnquoteStringRefuses(t *testing.T) {
	for _, s := range []string{
		``, `"`, `a`, `abc`, `"a`, `a"`, `'a'`, ` "a"`, `"a" `, `"a""`, `""a"`, `"a"b"`, `"""`, `"a"""`,
		`"\"`, `"a\"`, `"\\\"`, `"\`, `"\a"`, `"\t"`, `"\0"`, `"\'"`, `"\N"`, `"\ "`,
		`"\x"`, `"\x0"`, `"\x`, `"\x1"`, `"\xg1"`, `"\x1g"`, `"\x-1"`, `"\x+1"`, `"\x 1"`, `"\X01"`, `"\x0A"`, `"\xFF"`, `"\xfF"`,
		`"\x41"`, `"\x20"`, `"\x7e"`, `"\x22"`, `"\x5c"`, `"\x0a"`, `"\u0041"`, `"\101"`,
		"\"\n\"", "\"\x01\"", "\"\x1f\"", "\"\x7f\"", "\"\x80\"", "\"\xff\"", "\"\u00e9\"", "\"\t\"", "\"a\"\n", "\"\x00\"",
	} {
		refuseQuoted(t, s)
	}
}

func TestUnquoteStringAcceptsOneTextForEachString(t *testing.T) {
	for _, w := range wordsOver("\"\\xn01Aa", 5) {
		for _, s := range []string{w, `"` + w + `"`} {
			if u, ok := impl.UnquoteString(s); ok {
				if impl.QuoteString(u) != s {
					t.Fatalf("UnquoteString(%q) = %q", s, u)
				}
			} else {
				refuseQuoted(t, s)
			}
		}
	}
}

func TestIsNameOfEachByte(t *testing.T) {
	for c := range 256 {
		want := c >= 33 && c <= 126 && c != '`'
		b := string([]byte{byte(c)})
		for _, s := range []string{b, "a" + b, b + "a", "a" + b + "a"} {
			if impl.IsName(s) != want {
				t.Errorf("IsName(%q) is not %t", s, want)
			}
		}
	}
}

func TestIsNameLengths(t *testing.T) {
	for n := range 300 {
		for _, c := range []string{"a", ".", "7", "+"} {
			s := strings.Repeat(c, n)
			if impl.IsName(s) != (n >= 1 && n <= impl.MaxName) {
				t.Errorf("IsName of %d bytes %q", n, c)
			}
		}
	}
	if impl.MaxName != 20 || impl.MaxText != 60 {
		t.Error("limits")
	}
}

func TestIsNameRefusesOtherRunes(t *testing.T) {
	for _, s := range []string{"\u00e9", "x\u00e9", "\uff21", "\u0661", "\ufffd", "\U0001f600", "\xc3", "a\xc3", "\xe2\x82", "a b", "a\tb", "a\n"} {
		if impl.IsName(s) || impl.IsSyntacticName(s) || impl.FormatName(s) != "" {
			t.Errorf("%q is a name", s)
		}
	}
}

func reservedWords() []string {
	return []string{
		"if", "else", "for", "in", "while", "break", "next", "function", "return",
		"TRUE", "FALSE", "NULL", "NA", "NA_number_", "NA_character_",
		"tryCatch", "withCallingHandlers", "withRestart", "invokeRestart",
		"missing", "on.exit", "UseMethod", "NextMethod",
	}
}

func TestSyntacticNames(t *testing.T) {
	for _, s := range []string{
		"x", "Z", "a1", "a_", "a_b.c", "x..", ".", "..", "...", "....", ".a", "._", "._1", "..1", ".a1", "A.9_z",
		"a2345678901234567890", "twenty.bytes.in.here",
		"If", "IF", "true", "na", "Na", "NA_", "NA_integer_", "nextmethod", "usemethod", "trycatch", "on_exit", "on.exit.", ".if", "if_", "ifs", "elsewhere", "repeat", "Missing",
	} {
		if !impl.IsSyntacticName(s) {
			t.Errorf("%q is not syntactic", s)
		}
		if f := impl.FormatName(s); f != s {
			t.Errorf("FormatName(%q) = %q", s, f)
		}
	}
}

func TestNamesThatAreNotSyntactic(t *testing.T) {
	list := append(reservedWords(),
		"_", "_a", "1", "1a", "9", ".0", ".1", ".1a", ".9.", "f<-", "[", "[[<-", "$", "+", "-", "%%", "%/%", "a-b", "a$b", "a:b", "a[", "(", "{", "\"", "'a'", "\\", "#", "a,", "@", "/", "^", "~", "a~", "!", "a!", "x=",
		"names<-", strings.Repeat("+", impl.MaxName))
	for _, s := range list {
		if !impl.IsName(s) {
			t.Errorf("%q is no name", s)
		}
		if impl.IsSyntacticName(s) {
			t.Errorf("%q is syntactic", s)
		}
		if f := impl.FormatName(s); f != "`"+s+"`" {
			t.Errorf("FormatName(%q) = %q", s, f)
		}
	}
}

func TestNamesThatAreNone(t *testing.T) {
	for _, s := range []string{
		"", " ", "a b", " a", "a ", "`", "`a`", "a`", "\n", "a\n", "\x00", "a\x00", "\x7f", "\x1f", "\xff", "a\x80",
		"twenty1.bytes.in.here", strings.Repeat("a", 21), strings.Repeat(".", 21), strings.Repeat("a", 1000),
	} {
		if impl.IsName(s) {
			t.Errorf("%q is a name", s)
		}
		if impl.IsSyntacticName(s) {
			t.Errorf("%q is syntactic", s)
		}
		if f := impl.FormatName(s); f != "" {
			t.Errorf("FormatName(%q) = %q", s, f)
		}
	}
}

// isSyntacticByText says what the document says for strings of one or two bytes, none of them reserved but for if and in.
func isSyntacticByText(s string) bool {
	letters := "abcdefghijklmnopqrstuvwxyzABCDEFGHIJKLMNOPQRSTUVWXYZ"
	if s == "if" || s == "in" || s == "NA" {
		return false
	}
	for i := range len(s) {
		if strings.IndexByte(letters+"0123456789._", s[i]) < 0 {
			return false
		}
	}
	if s[0] == '.' && len(s) > 1 {
		return strings.IndexByte("0123456789", s[1]) < 0
	}
	return strings.IndexByte(letters+".", s[0]) >= 0
}

func TestSyntacticNamesOfTwoBytes(t *testing.T) {
	for a := range 256 {
		if s := string([]byte{byte(a)}); impl.IsSyntacticName(s) != isSyntacticByText(s) {
			t.Errorf("IsSyntacticName(%q)", s)
		}
		for b := range 256 {
			if s := string([]byte{byte(a), byte(b)}); impl.IsSyntacticName(s) != isSyntacticByText(s) {
				t.Errorf("IsSyntacticName(%q)", s)
			}
		}
	}
}

func TestJoinFields(t *testing.T) {
	long := strings.Repeat("x", 1234)
	cases := []struct {
		list []string
		want string
	}{
		{nil, ""},
		{[]string{}, ""},
		{[]string{""}, "0:"},
		{[]string{"", ""}, "0:0:"},
		{[]string{"a"}, "1:a"},
		{[]string{"ab", "", "1:2"}, "2:ab0:3:1:2"},
		{[]string{":", "::", "1:a"}, "1::2:::3:1:a"},
		{[]string{"\u00e9", "\xff\x00\n"}, "2:\u00e93:\xff\x00\n"},
		{[]string{"0123456789", long}, "10:01234567891234:" + long},
		{[]string{"2:ab0:", "2:ab0:"}, "6:2:ab0:6:2:ab0:"},
	}
	for _, c := range cases {
		if s := impl.JoinFields(c.list); s != c.want {
			t.Errorf("JoinFields(%q) = %q, not %q", c.list, s, c.want)
		}
		if l, ok := impl.SplitFields(c.want); !slices.Equal(l, c.list) || !ok {
			t.Errorf("SplitFields(%q) = %q, %t", c.want, l, ok)
		}
	}
}

func TestJoinFieldsKeepsItsArgument(t *testing.T) {
	whole := []string{"a", "b", "c"}
	impl.JoinFields(whole[:2])
	if !slices.Equal(whole, []string{"a", "b", "c"}) {
		t.Error(whole)
	}
}

func TestSplitFieldsReadsJoinFields(t *testing.T) {
	fields := wordsOver("1:a", 2)
	for _, a := range fields {
		for _, b := range fields {
			for _, c := range fields {
				list := []string{a, b, c}
				if l, ok := impl.SplitFields(impl.JoinFields(list)); !slices.Equal(l, list) || !ok {
					t.Fatalf("SplitFields of JoinFields(%q) = %q, %t", list, l, ok)
				}
			}
		}
	}
	many := make([]string, 2000)
	for i := range many {
		many[i] = strings.Repeat(":", i%120)
	}
	if l, ok := impl.SplitFields(impl.JoinFields(many)); !slices.Equal(l, many) || !ok {
		t.Error("many fields")
	}
}

func TestSplitFieldsRefuses(t *testing.T) {
	for _, s := range []string{
		"1", "ab", ":", ":a", "1a", "a:", "a:b", " 1:a", "1 :a", "1;a",
		"1:", "2:a", "3:ab", "1:a2:b", "1:ab", "0:a", "1:a0", "1:a:", "0::", "2:ab1", "1:a\n",
		"-1:", "-1:a", "-0:", "+1:a", "00:", "01:a", "02:ab", "0x1:a", "1.0:a", "1_0:aaaaaaaaaa",
		"999999999:a", "1000000000:a", "0000000001:a", "0000000000:",
		"9223372036854775807:a", "9223372036854775808:a", "18446744073709551616:", "18446744073709551617:a",
		strings.Repeat("9", 400) + ":a", strings.Repeat("1", 400),
		"1:a" + "1000000000:b", "2:ab0:3:1:", "\xff:a", "\u0661:a",
	} {
		refuseFields(t, s)
	}
}

func TestSplitFieldsAcceptsOneTextForEachList(t *testing.T) {
	for _, s := range wordsOver("012:-a", 6) {
		if l, ok := impl.SplitFields(s); ok {
			if impl.JoinFields(l) != s {
				t.Fatalf("SplitFields(%q) = %q", s, l)
			}
		} else {
			refuseFields(t, s)
		}
	}
}
