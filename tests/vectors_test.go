package tests

import (
	"fmt"
	"math/rand/v2"
	"slices"
	"strings"
	"testing"
	"unsafe"

	"loop.example/g03406/impl"
)

// This file has what the tests of several chapters need for vectors.

func word(s string) impl.Item { return impl.Item{Den: 1, Text: s} }

func vectorOf(kind int, items ...impl.Item) impl.Vector {
	return impl.Vector{Kind: kind, Items: items}
}

// logicals takes the ints of chapter 3: 2 is the missing value.
func logicals(list ...int) impl.Vector {
	v := impl.Vector{Kind: impl.KindLogical}
	for _, x := range list {
		v.Items = append(v.Items, []impl.Item{whole(0), whole(1), missingItem()}[x])
	}
	return v
}

func numbers(list ...int) impl.Vector {
	v := impl.Vector{Kind: impl.KindNumber}
	for _, x := range list {
		v.Items = append(v.Items, whole(x))
	}
	return v
}

func texts(list ...string) impl.Vector {
	v := impl.Vector{Kind: impl.KindText}
	for _, s := range list {
		v.Items = append(v.Items, word(s))
	}
	return v
}

func listOf(parts ...impl.Vector) impl.Vector {
	return impl.Vector{Kind: impl.KindList, Parts: parts}
}

func function(code int, env int) impl.Vector {
	return impl.Vector{Kind: impl.KindFunction, Code: code, Env: env}
}

func named(v impl.Vector, names ...string) impl.Vector {
	v.Names = names
	return v
}

func classed(v impl.Vector, class ...string) impl.Vector {
	v.Class = class
	return v
}

func levelled(v impl.Vector, levels ...string) impl.Vector {
	v.Levels = levels
	return v
}

// distinct returns count different strings of the given number of bytes.
func distinct(count int, bytes int) []string {
	var list []string
	for i := range count {
		list = append(list, fmt.Sprintf("%0*d", bytes, i))
	}
	return list
}

// numbersUpTo returns the numbers from 1 to n without the help of the package.
func numbersUpTo(n int) impl.Vector {
	v := impl.Vector{Kind: impl.KindNumber}
	for i := range n {
		v.Items = append(v.Items, whole(i+1))
	}
	return v
}

// nested returns v with depth lists around it, of one part each.
func nested(v impl.Vector, depth int) impl.Vector {
	for range depth {
		v = listOf(v)
	}
	return v
}

// listOfCells returns a list of number vectors with this number of cells.
func listOfCells(cells int) impl.Vector {
	v := listOf()
	for cells > 0 {
		size := min(cells-1, impl.MaxLength)
		v.Parts = append(v.Parts, numbersUpTo(size))
		cells -= size + 1
	}
	return v
}

// circular returns a list that is its own part.
func circular() impl.Vector {
	parts := make([]impl.Vector, 1)
	parts[0] = listOf(parts...)
	parts[0].Parts = parts
	return parts[0]
}

// wideCircular returns a list that has itself many times.
func wideCircular() impl.Vector {
	parts := make([]impl.Vector, impl.MaxLength)
	for i := range parts {
		parts[i] = impl.Vector{Kind: impl.KindList, Parts: parts}
	}
	return parts[0]
}

func lengthByText(v impl.Vector) int {
	if v.Kind == impl.KindFunction {
		return 1
	}
	return len(v.Items) + len(v.Parts)
}

func cellsByText(v impl.Vector) int {
	cells := lengthByText(v)
	for _, part := range v.Parts {
		cells += cellsByText(part)
	}
	return cells
}

func depthByText(v impl.Vector) int {
	depth := 0
	for _, part := range v.Parts {
		depth = max(depth, depthByText(part)+1)
	}
	return depth
}

// repeats reports whether two elements of list are equal.
func repeats(list []string) bool {
	seen := map[string]bool{}
	for _, s := range list {
		seen[s] = true
	}
	return len(seen) < len(list)
}

func longest(list []string) int {
	length := 0
	for _, s := range list {
		length = max(length, len(s))
	}
	return length
}

func suitsByText(x impl.Item, v impl.Vector) bool {
	if x == missingItem() {
		return true
	}
	if len(v.Levels) > 0 && (x.Den != 1 || x.Num < 1 || x.Num > len(v.Levels)) {
		return false
	}
	switch v.Kind {
	case impl.KindLogical:
		return x == whole(0) || x == whole(1)
	case impl.KindNumber:
		return isNumberByText(x)
	case impl.KindText:
		return x.Num == 0 && x.Den == 1 && len(x.Text) <= 60
	}
	return false
}

// faultOf returns the first rule of IsVector, in the order of the document, that v breaks, and the empty string if it is valid.
// Its argument must not be circular.
func faultOf(v impl.Vector) string {
	rules := []struct {
		name   string
		broken bool
	}{
		{"kind", !slices.Contains([]int{0, 1, 2, 3, 4, 5}, v.Kind)},
		{"length", lengthByText(v) > 40},
		{"number of names", len(v.Names) != 0 && len(v.Names) != lengthByText(v)},
		{"length of a name", longest(v.Names) > 60},
		{"all names empty", len(v.Names) != 0 && longest(v.Names) == 0},
		{"class", len(v.Class) > 3 || longest(v.Class) > 60 || repeats(v.Class) || slices.Contains(v.Class, "")},
		{"levels", len(v.Levels) > 20 || longest(v.Levels) > 60 || repeats(v.Levels) || slices.Contains(v.Levels, "")},
		{"levels of no number", v.Kind != 2 && len(v.Levels) != 0},
		{"parts of no list", v.Kind != 4 && len(v.Parts) != 0},
		{"code of no function", v.Kind != 5 && (v.Code != 0 || v.Env != 0)},
		{"elements of a function", v.Kind == 5 && (len(v.Items) != 0 || len(v.Names) != 0)},
		{"code", v.Kind == 5 && (v.Code < -999 || v.Code > 99999)},
		{"environment", v.Kind == 5 && (v.Env < 0 || v.Env > 99999)},
		{"elements of NULL", v.Kind == 0 && (len(v.Items) != 0 || len(v.Class) != 0)},
		{"item", slices.ContainsFunc(v.Items, func(x impl.Item) bool { return !suitsByText(x, v) })},
		{"items of a list", v.Kind == 4 && len(v.Items) != 0},
		{"part", slices.ContainsFunc(v.Parts, func(part impl.Vector) bool { return faultOf(part) != "" })},
		{"depth", depthByText(v) > 3},
		{"cells", cellsByText(v) > 200},
	}
	for _, rule := range rules {
		if rule.broken {
			return rule.name
		}
	}
	return ""
}

// A sample is a vector with a word that says what it is.
type sample struct {
	name   string
	vector impl.Vector
}

// vectorsAtTheLimits returns valid vectors, each of which would be invalid with one more of what its name says.
func vectorsAtTheLimits() []sample {
	long := strings.Repeat("x", 60)
	return []sample{
		{"40 logical values", vectorOf(impl.KindLogical, slices.Repeat([]impl.Item{whole(1), whole(0), missingItem(), whole(0)}, 10)...)},
		{"40 numbers", numbersUpTo(40)},
		{"40 strings", vectorOf(impl.KindText, slices.Repeat([]impl.Item{word("s")}, 40)...)},
		{"40 parts", listOf(slices.Repeat([]impl.Vector{vectorOf(impl.KindText, word("s"))}, 40)...)},
		{"40 names", named(numbersUpTo(40), distinct(40, 60)...)},
		{"a name of 60 bytes", named(numbersUpTo(2), "", long)},
		{"a string of 60 bytes", vectorOf(impl.KindText, word(long))},
		{"3 classes", classed(numbersUpTo(1), distinct(3, 60)...)},
		{"20 levels", levelled(numbersUpTo(20), distinct(20, 60)...)},
		{"3 levels", levelled(vectorOf(impl.KindNumber, whole(3), whole(1), missingItem()), "a", "b", "c")},
		{"the largest number", vectorOf(impl.KindNumber, ratio(999999999, 999999998), ratio(-999999998, 999999999))},
		{"the least code", function(-999, 0)},
		{"the largest code and environment", function(99999, 99999)},
		{"200 cells", listOfCells(200)},
		{"200 nested cells", listOf(listOfCells(99), listOf(listOfCells(98)))},
		{"200 cells of empty parts", listOf(slices.Repeat([]impl.Vector{listOf(listOf(), impl.Vector{}, listOf(), listOf())}, 40)...)},
		{"depth 3", nested(numbersUpTo(2), 3)},
		{"depth 3 with NULL", nested(impl.Vector{}, 3)},
		{"depth 3 with an empty list", nested(listOf(), 3)},
		{"depth 3 with a function", nested(function(1, 2), 3)},
		{"depth 3 beside others", listOf(numbersUpTo(1), nested(numbersUpTo(1), 2), listOf())},
	}
}

// vectorsBeyondTheLimits returns vectors that break one rule, by one more than is allowed or in the least other way.
func vectorsBeyondTheLimits() []sample {
	long := strings.Repeat("x", 61)
	return []sample{
		{"41 logical values", vectorOf(impl.KindLogical, slices.Repeat([]impl.Item{whole(1)}, 41)...)},
		{"41 numbers", numbersUpTo(41)},
		{"41 strings", vectorOf(impl.KindText, slices.Repeat([]impl.Item{word("s")}, 41)...)},
		{"41 parts", listOf(slices.Repeat([]impl.Vector{vectorOf(impl.KindText, word("s"))}, 41)...)},
		{"a name of 61 bytes", named(numbersUpTo(2), "", long)},
		{"a string of 61 bytes", vectorOf(impl.KindText, word(long))},
		{"4 classes", classed(numbersUpTo(1), distinct(4, 5)...)},
		{"a class of 61 bytes", classed(numbersUpTo(1), "a", long)},
		{"21 levels", levelled(numbersUpTo(20), distinct(21, 5)...)},
		{"a level of 61 bytes", levelled(numbersUpTo(1), "a", long)},
		{"a code of 4 for 3 levels", levelled(vectorOf(impl.KindNumber, whole(1), whole(4)), "a", "b", "c")},
		{"a code of 0 for 3 levels", levelled(vectorOf(impl.KindNumber, whole(1), whole(0)), "a", "b", "c")},
		{"the number 1000000000", vectorOf(impl.KindNumber, whole(1000000000))},
		{"the number 1/1000000000", vectorOf(impl.KindNumber, whole(1), ratio(1, 1000000000))},
		{"the code -1000", function(-1000, 0)},
		{"the code 100000", function(100000, 0)},
		{"the environment -1", function(0, -1)},
		{"the environment 100000", function(0, 100000)},
		{"201 cells", listOfCells(201)},
		{"201 nested cells", listOf(listOfCells(99), listOf(listOfCells(99)))},
		{"depth 4", nested(numbersUpTo(2), 4)},
		{"depth 4 with NULL", nested(impl.Vector{}, 4)},
		{"depth 4 with an empty list", nested(listOf(), 4)},
		{"depth 4 with a function", nested(function(1, 2), 4)},
		{"depth 4 beside others", listOf(numbersUpTo(1), nested(numbersUpTo(1), 3), listOf())},
		{"depth 100", nested(numbersUpTo(1), 100)},
	}
}

// vectorsThatMixUp returns vectors with fields that do not fit together.
func vectorsThatMixUp() []sample {
	one := whole(1)
	return []sample{
		{"kind -1", impl.Vector{Kind: -1}},
		{"kind 6", impl.Vector{Kind: 6}},
		{"one empty name", named(numbersUpTo(1), "")},
		{"empty names only", named(numbersUpTo(3), "", "", "")},
		{"empty names of parts", named(listOf(numbersUpTo(1), impl.Vector{}), "", "")},
		{"too few names", named(numbersUpTo(3), "a", "b")},
		{"too many names", named(numbersUpTo(1), "a", "b")},
		{"a name of NULL", named(impl.Vector{}, "a")},
		{"a name of no number", named(vectorOf(impl.KindNumber), "a")},
		{"a name of a function", named(function(1, 1), "f")},
		{"equal classes", classed(numbersUpTo(1), "a", "b", "a")},
		{"an empty class", classed(numbersUpTo(1), "a", "")},
		{"equal levels", levelled(numbersUpTo(1), "a", "b", "b")},
		{"an empty level", levelled(numbersUpTo(1), "")},
		{"levels of logical values", levelled(vectorOf(impl.KindLogical, one), "a")},
		{"levels of strings", levelled(vectorOf(impl.KindText, word("a")), "a")},
		{"levels of NULL", levelled(impl.Vector{}, "a")},
		{"levels of a list", levelled(listOf(), "a")},
		{"levels of a function", levelled(function(1, 1), "a")},
		{"a fraction as a code", levelled(vectorOf(impl.KindNumber, ratio(3, 2)), "a", "b")},
		{"NULL with an item", vectorOf(impl.KindNull, one)},
		{"NULL with a missing item", vectorOf(impl.KindNull, missingItem())},
		{"NULL with a class", classed(impl.Vector{}, "a")},
		{"NULL with a part", impl.Vector{Parts: []impl.Vector{{}}}},
		{"NULL with a code", impl.Vector{Code: 1}},
		{"NULL with an environment", impl.Vector{Env: 1}},
		{"a number with a part", impl.Vector{Kind: impl.KindNumber, Parts: []impl.Vector{numbersUpTo(1)}}},
		{"a number with a code", impl.Vector{Kind: impl.KindNumber, Code: -1}},
		{"a number with an environment", impl.Vector{Kind: impl.KindNumber, Env: 1}},
		{"a logical value with a part", impl.Vector{Kind: impl.KindLogical, Parts: []impl.Vector{{}}}},
		{"a string with a part", impl.Vector{Kind: impl.KindText, Parts: []impl.Vector{{}}}},
		{"a string with a code", impl.Vector{Kind: impl.KindText, Code: 1}},
		{"a list with an item", impl.Vector{Kind: impl.KindList, Items: []impl.Item{one}}},
		{"a list with a missing item", impl.Vector{Kind: impl.KindList, Items: []impl.Item{{}}}},
		{"a list with a code", impl.Vector{Kind: impl.KindList, Code: 1}},
		{"a list with an environment", impl.Vector{Kind: impl.KindList, Env: 1}},
		{"a function with an item", impl.Vector{Kind: impl.KindFunction, Items: []impl.Item{{}}}},
		{"a function with a part", impl.Vector{Kind: impl.KindFunction, Parts: []impl.Vector{{}}}},
		{"the logical value 2", vectorOf(impl.KindLogical, whole(2))},
		{"the logical value -1", vectorOf(impl.KindLogical, one, whole(-1))},
		{"the logical value 1/2", vectorOf(impl.KindLogical, ratio(1, 2))},
		{"a logical value with a text", vectorOf(impl.KindLogical, impl.Item{Num: 1, Den: 1, Text: "TRUE"})},
		{"a logical value over 0", vectorOf(impl.KindLogical, ratio(1, 0))},
		{"a number not in lowest terms", vectorOf(impl.KindNumber, ratio(2, 4))},
		{"a number with a text", vectorOf(impl.KindNumber, impl.Item{Num: 2, Den: 1, Text: "2"})},
		{"a number over 0", vectorOf(impl.KindNumber, ratio(1, 0))},
		{"a number over -1", vectorOf(impl.KindNumber, ratio(1, -1))},
		{"a string with a number", vectorOf(impl.KindText, impl.Item{Num: 1, Den: 1, Text: "a"})},
		{"a string over 0", vectorOf(impl.KindText, impl.Item{Text: "a"})},
		{"a string over 2", vectorOf(impl.KindText, impl.Item{Den: 2, Text: "a"})},
	}
}

// invalidVectors also has lists with invalid parts, on each level, and lists that contain themselves.
func invalidVectors() []sample {
	list := slices.Concat(vectorsBeyondTheLimits(), vectorsThatMixUp())
	for _, s := range slices.Clone(list) {
		list = append(list, sample{"a part: " + s.name, listOf(numbersUpTo(1), s.vector)})
	}
	for depth := 2; depth <= impl.MaxNest; depth++ {
		list = append(list, sample{"a part of a part: 2 as a logical value", nested(vectorOf(impl.KindLogical, whole(2)), depth)})
	}
	return append(list, sample{"a list of itself", circular()}, sample{"a list of itself, 40 times", wideCircular()})
}

// ordinaryVectors returns valid vectors of all kinds, small ones and those at the limits.
func ordinaryVectors() []sample {
	list := []sample{
		{"NULL", impl.Vector{}},
		{"no logical values", vectorOf(impl.KindLogical)},
		{"no numbers", vectorOf(impl.KindNumber)},
		{"no strings", vectorOf(impl.KindText)},
		{"no parts", listOf()},
		{"a function", function(0, 0)},
		{"a function with a class", classed(function(12, 34), "f", "g")},
		{"a missing logical value", vectorOf(impl.KindLogical, missingItem())},
		{"a missing number", vectorOf(impl.KindNumber, missingItem())},
		{"a missing string", vectorOf(impl.KindText, missingItem())},
		{"an empty string", vectorOf(impl.KindText, word(""))},
		{"strings that look like others", vectorOf(impl.KindText, word("NA"), word("TRUE"), word("1/2"), word("a\"\\\n\x00\xff"))},
		{"logical values", vectorOf(impl.KindLogical, whole(1), whole(0), missingItem())},
		{"numbers", vectorOf(impl.KindNumber, ratio(-7, 3), whole(0), missingItem(), whole(1))},
		{"one name", named(numbersUpTo(1), "a")},
		{"names, some of them empty", named(numbersUpTo(4), "", "a", "", "a")},
		{"names that are no names", named(numbersUpTo(5), "n 1", "if", "...", "`", strings.Repeat("x", 21))},
		{"a class and no elements", classed(vectorOf(impl.KindText), "c")},
		{"a factor", classed(levelled(named(vectorOf(impl.KindNumber, whole(2), missingItem(), whole(1)), "p", "", "q"), "u", "v w"), "factor")},
		{"a factor without elements", levelled(vectorOf(impl.KindNumber), "u")},
		{"a list of all kinds", named(listOf(impl.Vector{}, vectorOf(impl.KindLogical, whole(0)), numbersUpTo(2), vectorOf(impl.KindText, word("x")), listOf(), function(-5, 7)), "n", "", "if", "", "a b", "f")},
		{"lists in lists with attributes", classed(named(listOf(classed(named(listOf(levelled(numbersUpTo(2), "a", "b")), "in"), "inner"), missingPart()), "x", ""), "outer", "data.frame")},
	}
	return append(list, vectorsAtTheLimits()...)
}

func missingPart() impl.Vector { return vectorOf(impl.KindText, missingItem()) }

// randomItem returns a missing value now and then.
func randomItem(source *rand.Rand, kind int) impl.Item {
	if source.IntN(6) == 0 {
		return missingItem()
	}
	switch kind {
	case impl.KindLogical:
		return whole(source.IntN(2))
	case impl.KindNumber:
		return impl.MakeNumber(source.IntN(21)-10, source.IntN(4)+1)
	}
	return word([]string{"", "a", "b c", "NA", "1", "x\n", "\xff\""}[source.IntN(7)])
}

func randomNames(source *rand.Rand, count int) []string {
	var names []string
	for range count {
		names = append(names, []string{"", "", "a", "b", "if", "a b", "x.1"}[source.IntN(7)])
	}
	if longest(names) == 0 {
		return nil
	}
	return names
}

// randomVector returns a valid vector of the kind with at most size elements (3 on each further level) and depth parts in a chain, with names and a class now and then.
func randomVector(source *rand.Rand, kind int, size int, depth int) impl.Vector {
	v := impl.Vector{Kind: kind}
	if kind == impl.KindFunction {
		v.Code, v.Env = source.IntN(100), source.IntN(100)
	}
	for range source.IntN(size + 1) {
		switch kind {
		case impl.KindLogical, impl.KindNumber, impl.KindText:
			v.Items = append(v.Items, randomItem(source, kind))
		case impl.KindList:
			v.Parts = append(v.Parts, randomParts(source, min(size, 3), depth)...)
		}
	}
	for cellsByText(v) > 200 {
		v.Parts = v.Parts[1:]
	}
	if source.IntN(2) == 0 && kind != impl.KindFunction {
		v.Names = randomNames(source, lengthByText(v))
	}
	if source.IntN(4) == 0 && kind != impl.KindNull {
		v.Class = []string{"c", "d"}[:source.IntN(2)+1]
	}
	if source.IntN(4) == 0 && kind == impl.KindNumber {
		v = withCodes(source, v)
	}
	return v
}

// randomParts returns one part, and none where no more depth is left.
func randomParts(source *rand.Rand, size int, depth int) []impl.Vector {
	if depth == 0 {
		return nil
	}
	return []impl.Vector{randomVector(source, source.IntN(6), size, depth-1)}
}

// withCodes gives v levels, and codes of them in place of its numbers.
func withCodes(source *rand.Rand, v impl.Vector) impl.Vector {
	v.Levels = []string{"low", "mid", "high"}
	for i, x := range v.Items {
		if x != missingItem() {
			v.Items[i] = whole(source.IntN(3) + 1)
		}
	}
	return v
}

// roomy returns a copy of v whose slices all have unused capacity with marks in it.
func roomy(v impl.Vector) impl.Vector {
	v.Items = roomySlice(v.Items, word("mark"))
	v.Names = roomySlice(v.Names, "mark")
	v.Class = roomySlice(v.Class, "mark")
	v.Levels = roomySlice(v.Levels, "mark")
	v.Parts = roomyList(v.Parts)
	return v
}

func roomyList(list []impl.Vector) []impl.Vector {
	var copies []impl.Vector
	for _, v := range list {
		copies = append(copies, roomy(v))
	}
	return roomySlice(copies, vectorOf(impl.KindText, word("mark")))
}

func roomySlice[T any](list []T, mark T) []T {
	room := append(slices.Clone(list), mark, mark, mark)
	return room[:len(list):len(room)]
}

// contentOf writes all that the slices of v can reach, the unused capacity included.
func contentOf(v impl.Vector) string {
	text := fmt.Sprintf("%d %q %q %q %d %d", v.Kind, v.Names[:cap(v.Names)], v.Class[:cap(v.Class)], v.Levels[:cap(v.Levels)], v.Code, v.Env)
	text += fmt.Sprintf(" %d %d %d %d %d", len(v.Items), len(v.Parts), len(v.Names), len(v.Class), len(v.Levels))
	for _, x := range v.Items[:cap(v.Items)] {
		text += fmt.Sprintf(" %v", x)
	}
	for _, part := range v.Parts[:cap(v.Parts)] {
		text += " (" + contentOf(part) + ")"
	}
	return text
}

func contentsOf(list []impl.Vector) string {
	return contentOf(impl.Vector{Kind: impl.KindList, Parts: list})
}

// A region is the memory of a slice, from its first byte to behind its last one.
type region struct{ from, to uintptr }

func regionOf[T any](list []T) []region {
	var element T
	if cap(list) == 0 {
		return nil
	}
	from := uintptr(unsafe.Pointer(unsafe.SliceData(list)))
	return []region{{from, from + uintptr(cap(list))*unsafe.Sizeof(element)}}
}

// regionsOf returns the memory of all slices of v.
func regionsOf(v impl.Vector) []region {
	return append(regionsOfList(v.Parts), slices.Concat(regionOf(v.Items), regionOf(v.Names), regionOf(v.Class), regionOf(v.Levels))...)
}

func regionsOfList(list []impl.Vector) []region {
	regions := regionOf(list)
	for _, v := range list {
		regions = append(regions, regionsOf(v)...)
	}
	return regions
}

// checkApart checks that no two slices of the result share memory, and none with the arguments.
func checkApart(t *testing.T, name string, result []region, arguments ...[]region) {
	t.Helper()
	others := slices.Concat(arguments...)
	for i, r := range result {
		for _, o := range append(slices.Clone(result[:i]), others...) {
			if r.from < o.to && o.from < r.to {
				t.Errorf("%s: two slices share memory", name)
			}
		}
	}
}

// checkVector checks that v is the vector that is wanted. It does not rely on EqualVectors.
func checkVector(t *testing.T, name string, v impl.Vector, want impl.Vector) {
	t.Helper()
	if got, want := fieldsOf(v), fieldsOf(want); got != want {
		t.Errorf("%s: %s, not %s", name, got, want)
	}
}

// fieldsOf writes the fields of v; nil and empty slices are written in the same way.
func fieldsOf(v impl.Vector) string {
	text := fmt.Sprintf("{%d items %v names %q class %q levels %q code %d env %d", v.Kind, v.Items, v.Names, v.Class, v.Levels, v.Code, v.Env)
	for _, part := range v.Parts {
		text += " " + fieldsOf(part)
	}
	return text + "}"
}

// checkProblem checks that there is this problem and no result.
func checkProblem(t *testing.T, name string, v impl.Vector, problem string, want string) {
	t.Helper()
	if problem != want {
		t.Errorf("%s: problem %q, not %q", name, problem, want)
	}
	checkVector(t, name, v, impl.Vector{})
}

// checkResult checks that there is no problem and this result.
func checkResult(t *testing.T, name string, v impl.Vector, problem string, want impl.Vector) {
	t.Helper()
	if problem != "" {
		t.Errorf("%s: problem %q", name, problem)
	}
	checkVector(t, name, v, want)
}
