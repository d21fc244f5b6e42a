package tests

import (
	"fmt"
	"math/rand/v2"
	"slices"
	"strings"
	"testing"

	"loop.example/g03406/impl"
)

// pastedByText returns the string that an element of v is when it is pasted.
func pastedByText(v impl.Vector, x impl.Item) string {
	if x == missingItem() {
		return "NA"
	}
	return plainTextOf(v, x)
}

// pasteByText returns what PasteOf is to return, and its problem, for parts that must not be circular.
func pasteByText(parts []impl.Vector, sep string) (impl.Vector, string) {
	if len(parts) > 40 {
		return impl.Vector{}, tooLarge
	}
	length := 0
	for _, part := range parts {
		if faultOf(part) != "" {
			return impl.Vector{}, invalidVector
		}
		if !isAtomicByText(part) {
			return impl.Vector{}, notAtomic
		}
		length = max(length, len(part.Items))
	}
	w := texts()
	for i := range length {
		text, behind := "", ""
		for _, part := range parts {
			if len(part.Items) > 0 {
				text += behind + pastedByText(part, part.Items[i%len(part.Items)])
				behind = sep
			}
		}
		if len(text) > 60 {
			return impl.Vector{}, tooLarge
		}
		w.Items = append(w.Items, word(text))
	}
	return w, ""
}

func checkPasted(t *testing.T, sep string, parts ...impl.Vector) {
	t.Helper()
	name := fmt.Sprintf("paste of %d parts and %.80q: %.400s", len(parts), sep, fieldsOf(listOf(parts...)))
	w, problem := impl.PasteOf(parts, sep)
	want, wantedProblem := pasteByText(parts, sep)
	if wantedProblem != "" {
		checkProblem(t, name, w, problem, wantedProblem)
		return
	}
	checkResult(t, name, w, problem, want)
	if !impl.IsVector(w) {
		t.Errorf("%s: no vector", name)
	}
}

// countByText returns the numbers of bytes of the elements of v.
func countByText(v impl.Vector) impl.Vector {
	w := named(numbers(), v.Names...)
	for _, x := range v.Items {
		if x != missingItem() {
			x = whole(len(plainTextOf(v, x)))
		}
		w.Items = append(w.Items, x)
	}
	return w
}

// checkCounted takes a vector that must not be circular.
func checkCounted(t *testing.T, name string, v impl.Vector) {
	t.Helper()
	name = "bytes of " + name
	w, problem := impl.CountBytes(v)
	switch {
	case faultOf(v) != "":
		checkProblem(t, name, w, problem, invalidVector)
	case !isAtomicByText(v):
		checkProblem(t, name, w, problem, notAtomic)
	default:
		checkResult(t, name, w, problem, countByText(v))
		if !impl.IsVector(w) {
			t.Errorf("%s: no vector", name)
		}
	}
}

// pasted returns the result of a paste that has no problem.
func pasted(t *testing.T, sep string, parts ...impl.Vector) impl.Vector {
	t.Helper()
	v, problem := impl.PasteOf(parts, sep)
	if problem != "" {
		t.Errorf("paste of %s: %q", fieldsOf(listOf(parts...)), problem)
	}
	return v
}

// bytesOf returns a string of this length.
func bytesOf(length int) string { return strings.Repeat("x", length) }

func TestPasteOfInWords(t *testing.T) {
	for _, c := range []struct {
		parts []impl.Vector
		sep   string
		want  impl.Vector
	}{
		{[]impl.Vector{texts("a", "b"), numbers(1)}, "-", texts("a-1", "b-1")},
		{[]impl.Vector{numbers(1), texts("a", "b")}, "-", texts("1-a", "1-b")},
		{[]impl.Vector{texts("a", "b"), texts("c", "d"), texts("e", "f")}, "", texts("ace", "bdf")},
		{[]impl.Vector{texts("a", "b", "c")}, "-", texts("a", "b", "c")},
		{[]impl.Vector{texts("a", "b", "c"), texts("1", "2")}, ".", texts("a.1", "b.2", "c.1")},
		{[]impl.Vector{texts("1", "2"), texts("a", "b", "c", "d", "e"), texts("x", "y", "z")}, "", texts("1ax", "2by", "1cz", "2dx", "1ey")},
		{[]impl.Vector{texts("", ""), texts("", "a")}, "+", texts("+", "+a")},
		{[]impl.Vector{texts(""), texts(""), texts("")}, ", ", texts(", , ")},
		{[]impl.Vector{texts("")}, ", ", texts("")},
		{[]impl.Vector{texts("-"), texts("-")}, "-", texts("---")},
		{[]impl.Vector{texts("a\x00"), texts("\xff")}, "\n\x00\"\\", texts("a\x00\n\x00\"\\\xff")},
		{[]impl.Vector{texts("\xc3"), texts("\xa9")}, "", texts("é")},
		{[]impl.Vector{texts("a"), texts("b")}, "NA", texts("aNAb")},
		{[]impl.Vector{logicals(1, 0, 2)}, "-", texts("TRUE", "FALSE", "NA")},
		{[]impl.Vector{logicals(0, 1), numbers(0, 1)}, "=", texts("FALSE=0", "TRUE=1")},
		{[]impl.Vector{fractions(-7, 3, 0, 1, 0, 0, 12, 1)}, "-", texts("-7/3", "0", "NA", "12")},
		{[]impl.Vector{fractions(-largest, 999999998), fractions(999999998, largest)}, " ", texts("-999999999/999999998 999999998/999999999")},
		{[]impl.Vector{holed("a", "-", ""), texts("b")}, "/", texts("a/b", "NA/b", "/b")},
		{[]impl.Vector{holed("-"), texts("NA")}, " ", texts("NA NA")},
		{[]impl.Vector{missing(impl.KindLogical, 1), missing(impl.KindNumber, 2), missing(impl.KindText, 3)}, "", texts("NANANA", "NANANA", "NANANA")},
		{[]impl.Vector{factor(3, 0, 1), numbers(3, 2, 1)}, ":", texts("high:3", "NA:2", "low:1")},
		{[]impl.Vector{levelled(numbers(2, 1), "1", "NA")}, "-", texts("NA", "1")},
		{[]impl.Vector{levelled(numbers(2, 2, 1), "z", "y")}, "-", texts("y", "y", "z")},
		{[]impl.Vector{factor(0, 0)}, "-", texts("NA", "NA")},
		{[]impl.Vector{named(texts("a", "b"), "p", "q"), named(numbers(1), "r")}, "", texts("a1", "b1")},
		{[]impl.Vector{named(texts("a"), "p")}, "", texts("a")},
		{[]impl.Vector{named(classed(factor(1, 2), "f"), "p", "")}, "", texts("low", "mid")},
		{[]impl.Vector{classed(numbers(7), "c", "d"), classed(logicals(1), "e"), classed(texts("x"), "f")}, "", texts("7TRUEx")},
	} {
		v, problem := impl.PasteOf(c.parts, c.sep)
		checkResult(t, fmt.Sprintf("paste of %s and %q", fieldsOf(listOf(c.parts...)), c.sep), v, problem, c.want)
		checkPasted(t, c.sep, c.parts...)
	}
}

// emptyParts returns a part without elements of each kind, also with a Class and Levels.
func emptyParts() []impl.Vector {
	return []impl.Vector{{}, logicals(), numbers(), texts(), factor(), levelled(numbers(), "u"), classed(texts(), "c"), classed(logicals(), "c", "d")}
}

func TestPasteOfPartsWithoutElements(t *testing.T) {
	a, b := texts("a", "b"), numbers(1, 2, 3)
	v, problem := impl.PasteOf(emptyParts(), "-")
	checkResult(t, "all parts without elements", v, problem, texts())
	for _, none := range emptyParts() {
		for _, c := range []struct {
			parts []impl.Vector
			want  impl.Vector
		}{
			{[]impl.Vector{none}, texts()},
			{[]impl.Vector{none, none}, texts()},
			{[]impl.Vector{none, texts(), none, {}}, texts()},
			{[]impl.Vector{none, a}, texts("a", "b")},
			{[]impl.Vector{a, none}, texts("a", "b")},
			{[]impl.Vector{none, a, none}, texts("a", "b")},
			{[]impl.Vector{a, none, b}, texts("a-1", "b-2", "a-3")},
			{[]impl.Vector{none, a, none, none, b, none}, texts("a-1", "b-2", "a-3")},
			{[]impl.Vector{none, texts("")}, texts("")},
			{[]impl.Vector{texts(""), none, texts("")}, texts("-")},
			{[]impl.Vector{missing(impl.KindLogical, 1), none}, texts("NA")},
			{[]impl.Vector{none, missing(impl.KindText, 2), none, missing(impl.KindNumber, 1)}, texts("NA-NA", "NA-NA")},
			{[]impl.Vector{factor(2), none}, texts("mid")},
		} {
			v, problem := impl.PasteOf(c.parts, "-")
			checkResult(t, "paste of "+fieldsOf(listOf(c.parts...)), v, problem, c.want)
			checkPasted(t, "", c.parts...)
		}
	}
}

func TestPasteOfNoParts(t *testing.T) {
	for _, sep := range []string{"", "-", bytesOf(60), bytesOf(61), bytesOf(1000)} {
		v, problem := impl.PasteOf(nil, sep)
		checkResult(t, "no parts", v, problem, texts())
		v, problem = impl.PasteOf([]impl.Vector{}, sep)
		checkResult(t, "an empty list of parts", v, problem, texts())
	}
}

// TestPasteOfManyParts has up to MaxLength parts and more, of which the first to the last are told apart in the result.
func TestPasteOfManyParts(t *testing.T) {
	for count := range 40 + 1 {
		var parts []impl.Vector
		for i := range count {
			parts = append(parts, texts(string(rune('A'+i)), "-"))
		}
		want := texts()
		if count > 0 {
			want = texts("ABCDEFGHIJKLMNOPQRSTUVWXYZ[\\]^_`abcdefgh"[:count], "----------------------------------------"[:count])
		}
		v, problem := impl.PasteOf(parts, "")
		checkResult(t, "many parts", v, problem, want)
	}
	for _, part := range append(emptyParts(), texts("a"), texts("a", ""), numbers(1), missing(impl.KindLogical, 1), factor(1), texts(bytesOf(60))) {
		for _, count := range []int{39, 40, 41, 42, 80, 1000} {
			checkPasted(t, "", slices.Repeat([]impl.Vector{part}, count)...)
			checkPasted(t, "-", slices.Repeat([]impl.Vector{part}, count)...)
		}
		v, problem := impl.PasteOf(slices.Repeat([]impl.Vector{part}, 41), "")
		checkProblem(t, "41 times "+fieldsOf(part), v, problem, tooLarge)
	}
	v, problem := impl.PasteOf(make([]impl.Vector, 40), "-")
	checkResult(t, "40 times NULL", v, problem, texts())
	v, problem = impl.PasteOf(append(make([]impl.Vector, 39), texts("a")), "-")
	checkResult(t, "39 times NULL and a string", v, problem, texts("a"))
}

// TestPasteOfEachLength has each pair of lengths and each triple of some lengths.
func TestPasteOfEachLength(t *testing.T) {
	lists := func(lengths ...int) []impl.Vector {
		parts := []impl.Vector{numbersUpTo(lengths[0])}
		for _, length := range lengths[1:] {
			parts = append(parts, texts(distinct(length, 2)...))
		}
		return parts
	}
	for m := range 40 + 1 {
		for n := range 40 + 1 {
			checkPasted(t, "/", lists(m, n)...)
		}
	}
	some := []int{0, 1, 2, 3, 5, 6, 7, 13, 40}
	for _, k := range some {
		for _, m := range some {
			for _, n := range some {
				checkPasted(t, "", lists(k, m, n)...)
			}
		}
	}
}

// TestPasteOfLongStrings has strings of MaxText bytes and of one more, made in different ways.
func TestPasteOfLongStrings(t *testing.T) {
	for _, c := range []struct {
		name  string
		parts []impl.Vector
		sep   string
		bytes int
	}{
		{"one string", []impl.Vector{texts(bytesOf(60))}, "", 60},
		{"one string and a long separator that is not used", []impl.Vector{texts(bytesOf(60))}, bytesOf(61), 60},
		{"a separator that is not used beside empty parts", []impl.Vector{{}, texts("a"), numbers()}, bytesOf(100), 1},
		{"two strings", []impl.Vector{texts(bytesOf(59)), texts("y")}, "", 60},
		{"two strings", []impl.Vector{texts(bytesOf(60)), texts("y")}, "", 61},
		{"two strings", []impl.Vector{texts("y"), texts(bytesOf(60))}, "", 61},
		{"two strings", []impl.Vector{texts(bytesOf(60)), texts(bytesOf(60))}, "", 120},
		{"an empty string", []impl.Vector{texts(bytesOf(60)), texts("")}, "", 60},
		{"an empty string with a separator", []impl.Vector{texts(bytesOf(60)), texts("")}, "-", 61},
		{"a separator", []impl.Vector{texts("a"), texts("b")}, bytesOf(58), 60},
		{"a separator", []impl.Vector{texts("a"), texts("b")}, bytesOf(59), 61},
		{"a separator only", []impl.Vector{texts(""), texts("")}, bytesOf(60), 60},
		{"a separator only", []impl.Vector{texts(""), texts("")}, bytesOf(61), 61},
		{"two separators only", []impl.Vector{texts(""), texts(""), texts("")}, bytesOf(30), 60},
		{"two separators only", []impl.Vector{texts(""), texts(""), texts("")}, bytesOf(31), 62},
		{"two separators", []impl.Vector{texts("a"), texts("b"), texts("cd")}, bytesOf(28), 60},
		{"two separators", []impl.Vector{texts("a"), texts("bc"), texts("de")}, bytesOf(28), 61},
		{"39 separators", slices.Repeat([]impl.Vector{texts("")}, 40), "-", 39},
		{"39 separators", slices.Repeat([]impl.Vector{texts("")}, 40), "--", 78},
		{"missing elements", slices.Repeat([]impl.Vector{missing(impl.KindText, 1)}, 30), "", 60},
		{"missing elements", slices.Repeat([]impl.Vector{missing(impl.KindLogical, 1)}, 31), "", 62},
		{"a missing element", []impl.Vector{missing(impl.KindNumber, 1), texts(bytesOf(58))}, "", 60},
		{"a missing element", []impl.Vector{missing(impl.KindNumber, 1), texts(bytesOf(59))}, "", 61},
		{"logical values", append(slices.Repeat([]impl.Vector{logicals(0)}, 11), logicals(1)), "", 59},
		{"logical values", slices.Repeat([]impl.Vector{logicals(0)}, 12), "", 60},
		{"a logical value", []impl.Vector{logicals(0), texts(bytesOf(56))}, "", 61},
		{"numbers", slices.Repeat([]impl.Vector{fractions(999999998, largest)}, 3), "", 57},
		{"numbers", slices.Repeat([]impl.Vector{fractions(-999999998, largest)}, 3), "", 60},
		{"numbers", slices.Repeat([]impl.Vector{fractions(-999999998, largest)}, 3), "-", 62},
		{"levels", []impl.Vector{levelled(numbers(1), bytesOf(60))}, "", 60},
		{"levels", []impl.Vector{levelled(numbers(1), bytesOf(60)), levelled(numbers(1), "u")}, "", 61},
		{"bytes of runes", []impl.Vector{texts(strings.Repeat("é", 29)), texts("é")}, "", 60},
		{"bytes of runes", []impl.Vector{texts(strings.Repeat("é", 30)), texts("é")}, "", 62},
	} {
		v, problem := impl.PasteOf(c.parts, c.sep)
		name := fmt.Sprintf("%s, %d bytes", c.name, c.bytes)
		if c.bytes > 60 {
			checkProblem(t, name, v, problem, tooLarge)
		} else if problem != "" || len(v.Items) != 1 || len(v.Items[0].Text) != c.bytes {
			t.Errorf("%s: %s, %q", name, fieldsOf(v), problem)
		}
		checkPasted(t, c.sep, c.parts...)
	}
}

// TestPasteOfOneLongString has a string that is too long at each index, and long strings that do not meet in one element.
func TestPasteOfOneLongString(t *testing.T) {
	for length := 1; length <= 40; length++ {
		for i := range length {
			list := slices.Repeat([]string{""}, length)
			for bytes, want := range map[int]string{59: "", 60: tooLarge} {
				list[i] = bytesOf(bytes)
				v, problem := impl.PasteOf([]impl.Vector{texts(list...), texts("y")}, "")
				if problem != want {
					t.Errorf("a string of %d bytes at index %d of %d: %q", bytes+1, i, length, problem)
				}
				if want != "" {
					checkProblem(t, "a long string", v, problem, want)
				}
			}
		}
	}
	long := bytesOf(60)
	v, problem := impl.PasteOf([]impl.Vector{texts(long, "", long, ""), texts("", "a")}, "")
	checkResult(t, "long strings and short ones", v, problem, texts(long, "a", long, "a"))
	v, problem = impl.PasteOf([]impl.Vector{texts(long, "", long), texts("", "a")}, "")
	checkResult(t, "long strings and short ones of lengths that do not divide each other", v, problem, texts(long, "a", long))
	v, problem = impl.PasteOf([]impl.Vector{texts("", long, ""), texts("a", "")}, "")
	checkResult(t, "a long string beside an empty one", v, problem, texts("a", long, "a"))
	v, problem = impl.PasteOf([]impl.Vector{texts("", "", long), texts("a", "")}, "")
	checkProblem(t, "a long string beside one that is recycled", v, problem, tooLarge)
}

// TestPasteOfSeparators has each byte and long separators: the longest one would fill much memory if strings were made before they are measured.
func TestPasteOfSeparators(t *testing.T) {
	parts := []impl.Vector{texts("a", "b"), numbers(1), missing(impl.KindText, 1)}
	for c := range 256 {
		for _, sep := range []string{string([]byte{byte(c)}), string([]byte{byte(c), byte(255 - c), byte(c)})} {
			v, problem := impl.PasteOf(parts, sep)
			checkResult(t, fmt.Sprintf("separator %q", sep), v, problem, texts("a"+sep+"1"+sep+"NA", "b"+sep+"1"+sep+"NA"))
		}
	}
	for length := range 70 {
		checkPasted(t, bytesOf(length), parts...)
		checkPasted(t, bytesOf(length), parts[0])
	}
	huge := strings.Repeat("\x00", 1<<26)
	v, problem := impl.PasteOf(slices.Repeat([]impl.Vector{texts(distinct(40, 2)...)}, 40), huge)
	checkProblem(t, "a huge separator", v, problem, tooLarge)
	v, problem = impl.PasteOf([]impl.Vector{texts(""), texts("")}, huge)
	checkProblem(t, "a huge separator only", v, problem, tooLarge)
	v, problem = impl.PasteOf([]impl.Vector{{}, texts("a", "b"), texts()}, huge)
	checkResult(t, "a huge separator that is not used", v, problem, texts("a", "b"))
}

// TestPasteOfEachLogicalAndNumber has single parts, whose strings are those of chapter 2.
func TestPasteOfEachLogicalAndNumber(t *testing.T) {
	for _, x := range slices.Concat(someNumbers(), randomNumbers(500)) {
		part := vectorOf(impl.KindNumber, x)
		v, problem := impl.PasteOf([]impl.Vector{part}, "-")
		checkResult(t, "a number", v, problem, texts(impl.FormatNumber(x)))
		checkPasted(t, "-", part, logicals(0, 1, 2), part)
		checkCounted(t, "a number", part)
		v, problem = impl.CountBytes(part)
		checkResult(t, "bytes of a number", v, problem, numbers(len(impl.FormatNumber(x))))
	}
}

// A badPart is a part with a problem.
type badPart struct {
	part impl.Vector
	want string
}

func badParts() []badPart {
	return []badPart{
		{listOf(), notAtomic},
		{listOf(texts("a")), notAtomic},
		{listOf(impl.Vector{}), notAtomic},
		{named(classed(listOf(texts("a")), "data.frame"), "x"), notAtomic},
		{function(0, 0), notAtomic},
		{classed(function(1, 2), "c"), notAtomic},
		{numbers(1000000000), invalidVector},
		{vectorOf(impl.KindLogical, whole(2)), invalidVector},
		{texts(bytesOf(61)), invalidVector},
		{named(texts("a"), ""), invalidVector},
		{classed(impl.Vector{}, "a"), invalidVector},
		{factor(4), invalidVector},
		{levelled(texts("a"), "a"), invalidVector},
		{texts(slices.Repeat([]string{""}, 41)...), invalidVector},
		{listOf(numbers(1000000000)), invalidVector},
		{levelled(listOf(), "a"), invalidVector},
		{function(-1000, 0), invalidVector},
		{named(function(1, 1), "f"), invalidVector},
		{impl.Vector{Kind: 6}, invalidVector},
		{impl.Vector{Kind: -1}, invalidVector},
	}
}

// TestPasteOfBadParts has each problem alone, at each place among good parts, and together with a string that is too long and with too many parts.
func TestPasteOfBadParts(t *testing.T) {
	good := []impl.Vector{texts("a", "b"), {}, numbers(1), factor(), factor(1, 0)}
	long := texts(bytesOf(60))
	for _, c := range badParts() {
		name := fieldsOf(c.part)
		for _, list := range [][]impl.Vector{nil, good, {{}}, {long}, {long, long}, slices.Repeat([]impl.Vector{long}, 39), make([]impl.Vector, 39)} {
			for i := range len(list) + 1 {
				parts := slices.Insert(slices.Clone(list), i, c.part)
				for _, sep := range []string{"", "-", bytesOf(61)} {
					v, problem := impl.PasteOf(parts, sep)
					checkProblem(t, fmt.Sprintf("%s at %d of %d", name, i, len(parts)), v, problem, c.want)
					checkPasted(t, sep, parts...)
				}
			}
		}
		for _, other := range append(emptyParts(), texts("a"), long, c.part, listOf(), numbers(1000000000)) {
			for _, count := range []int{40, 41, 100} {
				list := slices.Repeat([]impl.Vector{other}, count)
				for _, i := range []int{0, 1, 39, 40, count} {
					v, problem := impl.PasteOf(slices.Insert(slices.Clone(list), i, c.part), "")
					checkProblem(t, fmt.Sprintf("%s at %d of %d", name, i, count+1), v, problem, tooLarge)
				}
			}
		}
	}
}

// TestPasteOfTwoBadParts has the problem of the first one, whatever stands before, between and behind them.
func TestPasteOfTwoBadParts(t *testing.T) {
	long := texts(bytesOf(60))
	for _, c := range badParts() {
		for _, d := range badParts() {
			for _, other := range []impl.Vector{{}, texts("a"), long} {
				for _, parts := range [][]impl.Vector{
					{c.part, d.part},
					{other, c.part, d.part},
					{c.part, other, d.part},
					{c.part, d.part, other},
					{other, other, c.part, other, other, d.part, other, other},
					{c.part, d.part, d.part, d.part},
				} {
					v, problem := impl.PasteOf(parts, "")
					checkProblem(t, fieldsOf(listOf(parts...)), v, problem, c.want)
				}
			}
		}
	}
}

// TestStringsOfInvalidVectors also has lists that contain themselves.
func TestStringsOfInvalidVectors(t *testing.T) {
	good, list := texts("a"), listOf(texts("a"))
	for _, s := range invalidVectors() {
		v, problem := impl.CountBytes(s.vector)
		checkProblem(t, "bytes of "+s.name, v, problem, invalidVector)
		for _, parts := range [][]impl.Vector{
			{s.vector},
			{s.vector, good},
			{good, s.vector},
			{{}, s.vector, {}},
			{s.vector, list},
			{s.vector, function(1, 1)},
			{s.vector, s.vector},
			append(slices.Repeat([]impl.Vector{good}, 39), s.vector),
			slices.Repeat([]impl.Vector{s.vector}, 40),
		} {
			v, problem = impl.PasteOf(parts, "-")
			checkProblem(t, "paste of "+s.name, v, problem, invalidVector)
		}
		for _, other := range []impl.Vector{list, listOf(), function(1, 1)} {
			v, problem = impl.PasteOf([]impl.Vector{good, other, s.vector}, "-")
			checkProblem(t, "paste of "+s.name, v, problem, notAtomic)
		}
		v, problem = impl.PasteOf(slices.Repeat([]impl.Vector{s.vector}, 41), "-")
		checkProblem(t, "paste of 41 times "+s.name, v, problem, tooLarge)
	}
}

func TestCountBytesInWords(t *testing.T) {
	for _, c := range []struct{ from, want impl.Vector }{
		{texts("", "a", "abc"), numbers(0, 1, 3)},
		{texts("é", "日本", "\xff", "\x00\n", "\"\\"), numbers(2, 6, 1, 2, 2)},
		{texts(bytesOf(59), bytesOf(60)), numbers(59, 60)},
		{holed("NA", "-", "", "-"), vectorOf(impl.KindNumber, whole(2), missingItem(), whole(0), missingItem())},
		{logicals(1, 0, 2), vectorOf(impl.KindNumber, whole(4), whole(5), missingItem())},
		{numbers(10, 0, -7, largest, -largest), numbers(2, 1, 2, 9, 10)},
		{fractions(1, 2, 0, 0, -7, 3, 999999998, largest, -999999998, largest), vectorOf(impl.KindNumber, whole(3), missingItem(), whole(4), whole(19), whole(20))},
		{missing(impl.KindLogical, 1), missing(impl.KindNumber, 1)},
		{missing(impl.KindNumber, 2), missing(impl.KindNumber, 2)},
		{missing(impl.KindText, 3), missing(impl.KindNumber, 3)},
		{factor(3, 0, 2, 1), vectorOf(impl.KindNumber, whole(4), missingItem(), whole(3), whole(3))},
		{levelled(numbers(2, 1, 2), "NA", bytesOf(60)), numbers(60, 2, 60)},
		{named(texts("abc", "", "d"), "p", "", "q"), named(numbers(3, 0, 1), "p", "", "q")},
		{named(logicals(2), bytesOf(60)), named(missing(impl.KindNumber, 1), bytesOf(60))},
		{named(numbers(100), "x"), named(numbers(3), "x")},
		{named(factor(1, 3), "", "y"), named(numbers(3, 4), "", "y")},
		{classed(texts("ab"), "c", "d"), numbers(2)},
		{classed(named(numbers(-1), "x"), "c"), named(numbers(2), "x")},
		{texts(), numbers()},
		{numbers(), numbers()},
		{logicals(), numbers()},
		{factor(), numbers()},
		{impl.Vector{}, numbers()},
	} {
		v, problem := impl.CountBytes(c.from)
		checkResult(t, "bytes of "+fieldsOf(c.from), v, problem, c.want)
		checkCounted(t, fieldsOf(c.from), c.from)
	}
}

func TestCountBytesProblems(t *testing.T) {
	for _, c := range badParts() {
		v, problem := impl.CountBytes(c.part)
		checkProblem(t, "bytes of "+fieldsOf(c.part), v, problem, c.want)
		checkCounted(t, fieldsOf(c.part), c.part)
	}
}

// TestCountBytesOfEachString has all lengths of strings and all lengths of vectors.
func TestCountBytesOfEachString(t *testing.T) {
	for length := range 62 {
		checkCounted(t, "a string", texts(bytesOf(length)))
	}
	for length := range 42 {
		v := impl.Vector{Kind: impl.KindText}
		want := numbers()
		for i := range length {
			v.Items = append(v.Items, word(bytesOf(i)))
			want.Items = append(want.Items, whole(i))
		}
		checkCounted(t, "strings of all lengths", v)
		if length <= 40 {
			w, problem := impl.CountBytes(v)
			checkResult(t, "strings of all lengths", w, problem, want)
		}
	}
}

func TestStringsOfSamples(t *testing.T) {
	list := ordinaryVectors()
	for _, s := range list {
		checkCounted(t, s.name, s.vector)
		checkPasted(t, "-", s.vector)
		for _, other := range list {
			checkPasted(t, "", s.vector, other.vector)
			checkPasted(t, "\x00\xff", other.vector, impl.Vector{}, s.vector)
		}
	}
}

func TestStringsOfRandomVectors(t *testing.T) {
	source := rand.New(rand.NewPCG(8, 1))
	separators := []string{"", "", "-", " ", "\n\xff", "NA", "a long one"}
	for range 10000 {
		var parts []impl.Vector
		for range source.IntN(7) {
			parts = append(parts, randomOperand(source, source.IntN(3)+1, source.IntN(12)))
		}
		if source.IntN(4) == 0 {
			parts = append(parts, randomVector(source, source.IntN(6), 8, 3))
		}
		checkPasted(t, separators[source.IntN(len(separators))], parts...)
	}
	for range 5000 {
		v := randomVector(source, source.IntN(6), 40, 3)
		checkCounted(t, fieldsOf(v), v)
		v = randomOperand(source, source.IntN(3)+1, source.IntN(41))
		checkCounted(t, fieldsOf(v), v)
	}
}

// checkPastedInAnyOrder checks that it makes no difference which of the three vectors are pasted first; if the whole has a problem, so has one of the two steps.
func checkPastedInAnyOrder(t *testing.T, sep string, a impl.Vector, b impl.Vector, d impl.Vector) bool {
	t.Helper()
	inTwoSteps := func(first []impl.Vector, join func(w impl.Vector) []impl.Vector) (impl.Vector, string) {
		w, problem := impl.PasteOf(first, sep)
		if problem != "" {
			return impl.Vector{}, problem
		}
		return impl.PasteOf(join(w), sep)
	}
	v, problem := impl.PasteOf([]impl.Vector{a, b, d}, sep)
	left, leftProblem := inTwoSteps([]impl.Vector{a, b}, func(w impl.Vector) []impl.Vector { return []impl.Vector{w, d} })
	right, rightProblem := inTwoSteps([]impl.Vector{b, d}, func(w impl.Vector) []impl.Vector { return []impl.Vector{a, w} })
	name := fmt.Sprintf("%q: %s, %s, %s", sep, fieldsOf(a), fieldsOf(b), fieldsOf(d))
	checkVector(t, "the first two of "+name, left, v)
	checkVector(t, "the last two of "+name, right, v)
	if leftProblem != problem || rightProblem != problem {
		t.Errorf("%s: %q, but %q and %q in two steps", name, problem, leftProblem, rightProblem)
	}
	return problem == ""
}

// TestPastingIsAssociative has vectors of one length, with strings up to and beyond MaxText bytes.
func TestPastingIsAssociative(t *testing.T) {
	source := rand.New(rand.NewPCG(8, 2))
	separators := []string{"", "-", ", ", "\x00", "NA"}
	counts := map[bool]int{}
	for range 4000 {
		length := source.IntN(41)
		var list []impl.Vector
		for range 3 {
			v := randomOperand(source, source.IntN(3)+1, length)
			for i, x := range v.Items {
				if v.Kind == impl.KindText && x != missingItem() && source.IntN(8) == 0 {
					v.Items[i] = word(bytesOf(source.IntN(61)))
				}
			}
			list = append(list, v)
		}
		counts[checkPastedInAnyOrder(t, separators[source.IntN(len(separators))], list[0], list[1], list[2])]++
	}
	if counts[true] < 500 || counts[false] < 500 {
		t.Errorf("results and problems: %v", counts)
	}
	for _, sep := range separators {
		for _, a := range emptyParts() {
			for _, b := range emptyParts() {
				checkPastedInAnyOrder(t, sep, a, b, impl.Vector{})
				checkPastedInAnyOrder(t, sep, impl.Vector{}, a, b)
			}
		}
	}
}

// TestPastingAtTheLimitIsAssociative has strings and separators that together have about MaxText bytes.
func TestPastingAtTheLimitIsAssociative(t *testing.T) {
	for sep := range 4 {
		for a := range 4 {
			for d := range 4 {
				for total := 58; total <= 62; total++ {
					b := texts(bytesOf(total - a - d - 2*sep))
					if got := checkPastedInAnyOrder(t, strings.Repeat("-", sep), texts(bytesOf(a)), b, texts(bytesOf(d))); got != (total <= 60) {
						t.Errorf("%d bytes in all: result %v", total, got)
					}
				}
			}
		}
	}
}

// TestPastedStringsFitTogether checks that parts can be pasted as strings first, repeated, left out where they are empty, and counted.
func TestPastedStringsFitTogether(t *testing.T) {
	source := rand.New(rand.NewPCG(8, 3))
	for range 3000 {
		length := source.IntN(6) + 1
		a, b := randomOperand(source, source.IntN(3)+1, length), randomOperand(source, source.IntN(3)+1, length*(source.IntN(4)+1))
		resultOf := arranged(t, a)
		v := pasted(t, ": ", a, b)
		checkVector(t, "pasted alone", pasted(t, "-", v), v)
		checkVector(t, "pasted as strings first", pasted(t, ": ", pasted(t, "", a), pasted(t, "", b)), v)
		checkVector(t, "repeated first", pasted(t, ": ", resultOf(impl.RepeatVector(a, len(b.Items)/length)), b), v)
		checkVector(t, "without names", pasted(t, ": ", withoutNames(a), withoutNames(b)), v)
		checkVector(t, "with a separator among the parts", pasted(t, "", a, texts(": "), b), v)
		for _, none := range emptyParts() {
			checkVector(t, "with an empty part", pasted(t, ": ", a, none, b), v)
		}
		sum := resultOf(impl.ArithmeticOf("+", bytesPasted(t, a), bytesPasted(t, b)))
		checkVector(t, "bytes", bytesPasted(t, v), resultOf(impl.ArithmeticOf("+", sum, numbers(2))))
	}
}

// bytesPasted counts 2 bytes for the string NA of a missing element.
func bytesPasted(t *testing.T, v impl.Vector) impl.Vector {
	t.Helper()
	return withoutNames(arranged(t, v)(impl.CountBytes(pasted(t, "", v))))
}

// TestBytesFitTogether compares the numbers of bytes with those of the pasted strings, which have no missing elements.
func TestBytesFitTogether(t *testing.T) {
	source := rand.New(rand.NewPCG(8, 4))
	for range 3000 {
		v := randomOperand(source, source.IntN(3)+1, source.IntN(41))
		resultOf := arranged(t, v)
		bytes := resultOf(impl.CountBytes(v))
		checkVector(t, "missing bytes", resultOf(impl.MissingIn(bytes)), resultOf(impl.MissingIn(v)))
		if len(v.Items) > 0 {
			filled := resultOf(impl.ChooseVector(resultOf(impl.MissingIn(v)), numbers(2), bytes))
			checkVector(t, "bytes of pasted strings", withoutNames(filled), bytesPasted(t, v))
		}
		if strings, ok := impl.CoerceVector(v, impl.KindText); ok && len(v.Levels) == 0 {
			checkVector(t, "bytes of strings", resultOf(impl.CountBytes(strings)), bytes)
		}
	}
}

// TestStringsShareNoMemory also checks that the functions change nothing, not even behind the end of a slice.
func TestStringsShareNoMemory(t *testing.T) {
	list := append(ordinaryVectors(),
		sample{"strings", named(holed("a", "-", "b"), "p", "", "q")},
		sample{"one factor", named(factor(3, 0, 1, 2), "a", "b", "c", "d")},
		sample{"one string", texts("a")})
	for _, s := range list {
		v := roomy(s.vector)
		before, regions := contentOf(v), regionsOf(v)
		w, _ := impl.CountBytes(v)
		checkApart(t, "bytes of "+s.name, regionsOf(w), regions)
		if contentOf(v) != before {
			t.Errorf("bytes of %s: the argument has changed", s.name)
		}
		for _, other := range list {
			parts := roomyList([]impl.Vector{s.vector, {}, other.vector, texts("z")})
			before, regions := contentsOf(parts), regionsOfList(parts)
			for count := range len(parts) + 1 {
				w, _ := impl.PasteOf(parts[:count], "-")
				checkApart(t, "paste of "+s.name+" and "+other.name, regionsOf(w), regions)
			}
			if contentsOf(parts) != before {
				t.Errorf("paste of %s and %s: a part has changed", s.name, other.name)
			}
		}
	}
}

// TestStringsInUse checks that changing a result does not change what a second call returns.
func TestStringsInUse(t *testing.T) {
	v := named(texts("a", "bc"), "p", "q")
	for range 2 {
		w, problem := impl.PasteOf([]impl.Vector{v, numbers(1)}, "-")
		checkResult(t, "paste", w, problem, texts("a-1", "bc-1"))
		w.Items[0] = word("changed")
		w, problem = impl.CountBytes(v)
		checkResult(t, "bytes", w, problem, named(numbers(1, 2), "p", "q"))
		w.Items[0], w.Names[0] = whole(7), "changed"
	}
}
