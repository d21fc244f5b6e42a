package tests

import (
	"math"
	"math/rand/v2"
	"slices"
	"strconv"
	"strings"
	"testing"

	"loop.example/g03406/impl"
)

const (
	invalidVector = "invalid vector"
	tooLarge      = "result is too large"
)

func TestIsVector(t *testing.T) {
	for _, s := range ordinaryVectors() {
		if !impl.IsVector(s.vector) || faultOf(s.vector) != "" {
			t.Errorf("%s: no vector (%s)", s.name, faultOf(s.vector))
		}
	}
	for _, s := range invalidVectors() {
		if impl.IsVector(s.vector) {
			t.Errorf("%s: a vector", s.name)
		}
	}
}

// TestIsVectorOfEachItem has vectors of one element, alone and behind a valid one.
func TestIsVectorOfEachItem(t *testing.T) {
	items := slices.Concat(notNumbers(), someNumbers(), []impl.Item{
		missingItem(), whole(0), whole(1), whole(2), whole(-1), word(""), word("a"), word("NA"), word("\x00\xff"),
		word(strings.Repeat("x", 59)), word(strings.Repeat("x", 60)), word(strings.Repeat("x", 61)), word(strings.Repeat("\u00e9", 30)), word(strings.Repeat("\u00e9", 31)),
		{Num: 0, Den: 1, Text: "a"}, {Num: 1, Den: 1, Text: "a"}, {Num: -1, Den: 1, Text: "a"}, {Num: 0, Den: 0, Text: "a"}, {Num: 0, Den: 2}, {Num: 0, Den: -1}, {Num: 1, Den: 0},
		{Num: math.MaxInt, Den: 1}, {Num: math.MinInt, Den: 1}, {Num: 1, Den: math.MaxInt}, {Num: 1, Den: math.MinInt}, {Num: math.MinInt, Den: math.MinInt},
	})
	for kind := -1; kind <= 6; kind++ {
		for _, x := range items {
			for _, v := range []impl.Vector{vectorOf(kind, x), vectorOf(kind, missingItem(), x), levelled(vectorOf(kind, x), "a", "b")} {
				if got, fault := impl.IsVector(v), faultOf(v); got != (fault == "") {
					t.Errorf("IsVector(%s) = %t, with the fault %q", fieldsOf(v), got, fault)
				}
			}
		}
	}
}

// TestIsVectorOfCodes has factors of each number of levels with each code.
func TestIsVectorOfCodes(t *testing.T) {
	for count := 1; count <= 21; count++ {
		for code := -2; code <= 23; code++ {
			v := levelled(vectorOf(impl.KindNumber, whole(1), missingItem(), whole(code)), distinct(count, 2)...)
			if got, want := impl.IsVector(v), count <= 20 && code >= 1 && code <= count; got != want {
				t.Errorf("%d levels and the code %d: %t", count, code, got)
			}
		}
	}
}

// changed returns v with one change, after which it may be valid or not.
func changed(source *rand.Rand, v impl.Vector) impl.Vector {
	some := []string{"", "a", "b", strings.Repeat("x", 60), strings.Repeat("x", 61)}
	label := some[source.IntN(len(some))]
	switch source.IntN(11) {
	case 0:
		v.Kind = source.IntN(8) - 1
	case 1:
		v.Names = append(slices.Clone(v.Names), label)
	case 2:
		v.Names = slices.Repeat([]string{label}, lengthByText(v))
	case 3:
		v.Class = append(slices.Clone(v.Class), label)
	case 4:
		v.Levels = append(slices.Clone(v.Levels), label)
	case 5:
		v.Items = append(slices.Clone(v.Items), randomItem(source, source.IntN(3)+1))
	case 6:
		v.Items = slices.Repeat(v.Items, source.IntN(10))
	case 7:
		v.Parts = append(slices.Clone(v.Parts), randomParts(source, 3, 3)...)
	case 8:
		v.Parts = slices.Repeat(v.Parts, source.IntN(12))
	case 9:
		v.Code, v.Env = source.IntN(3)-1, source.IntN(3)-1
	case 10:
		v = listOf(slices.Repeat([]impl.Vector{v}, source.IntN(41))...)
	}
	if len(v.Parts) > 0 && source.IntN(2) == 0 {
		i := source.IntN(len(v.Parts))
		v.Parts = slices.Clone(v.Parts)
		v.Parts[i] = changed(source, v.Parts[i])
	}
	return v
}

func TestIsVectorOfRandomVectors(t *testing.T) {
	source := rand.New(rand.NewPCG(4, 1))
	faults := map[string]int{}
	for range 40000 {
		v := randomVector(source, source.IntN(6), 6, 3)
		if !impl.IsVector(v) || faultOf(v) != "" {
			t.Errorf("%s is no vector (%s)", fieldsOf(v), faultOf(v))
		}
		v = changed(source, v)
		fault := faultOf(v)
		faults[fault]++
		if got := impl.IsVector(v); got != (fault == "") {
			t.Errorf("IsVector(%s) = %t, with the fault %q", fieldsOf(v), got, fault)
		}
	}
	for _, fault := range []string{"", "length", "number of names", "all names empty", "class", "levels", "part", "depth", "cells"} {
		if faults[fault] < 20 {
			t.Errorf("only %d vectors with the fault %q", faults[fault], fault)
		}
	}
}

func TestCellCountAndLengthOf(t *testing.T) {
	for _, s := range ordinaryVectors() {
		if got, want := impl.CellCount(s.vector), cellsByText(s.vector); got != want {
			t.Errorf("%s: %d cells, not %d", s.name, got, want)
		}
		if got, want := impl.LengthOf(s.vector), lengthByText(s.vector); got != want {
			t.Errorf("%s: length %d, not %d", s.name, got, want)
		}
	}
	for _, s := range invalidVectors() {
		if got := impl.CellCount(s.vector); got != 0 {
			t.Errorf("%s: %d cells, not 0", s.name, got)
		}
		if got := impl.LengthOf(s.vector); got != 0 {
			t.Errorf("%s: length %d, not 0", s.name, got)
		}
	}
}

func TestCellCountUpToTheLimit(t *testing.T) {
	for cells := range 210 {
		want := cells
		if cells > 200 {
			want = 0
		}
		if got := impl.CellCount(listOfCells(cells)); got != want {
			t.Errorf("CellCount of %d cells = %d", cells, got)
		}
	}
	if got := impl.CellCount(function(5, 5)); got != 1 {
		t.Errorf("a function has %d cells", got)
	}
}

func TestLengthOfUpToTheLimit(t *testing.T) {
	for n := range 50 {
		want := n
		if n > 40 {
			want = 0
		}
		for _, v := range []impl.Vector{numbersUpTo(n), listOf(make([]impl.Vector, n)...)} {
			if got := impl.LengthOf(v); got != want {
				t.Errorf("LengthOf a vector of length %d and kind %d = %d", n, v.Kind, got)
			}
		}
	}
}

func TestImplicitClass(t *testing.T) {
	byKind := []string{"NULL", "logical", "numeric", "character", "list", "function"}
	for _, s := range ordinaryVectors() {
		want := s.vector.Class
		if len(want) == 0 {
			want = []string{byKind[s.vector.Kind]}
		}
		if got := impl.ImplicitClass(s.vector); !slices.Equal(got, want) {
			t.Errorf("%s: class %q, not %q", s.name, got, want)
		}
	}
	for _, s := range invalidVectors() {
		if got := impl.ImplicitClass(s.vector); len(got) != 0 {
			t.Errorf("%s: class %q", s.name, got)
		}
	}
	if got := impl.ImplicitClass(levelled(numbersUpTo(1), "a")); !slices.Equal(got, []string{"numeric"}) {
		t.Errorf("levels without a class: class %q", got)
	}
}

func TestLogicalVector(t *testing.T) {
	for x, want := range map[int]impl.Item{0: whole(0), 1: whole(1), 2: {}, -1: {}, 256: {}, 257: {}, 1 << 32: {}, math.MaxInt: {}, math.MinInt: {}, math.MinInt + 1: {}} {
		checkVector(t, strconv.Itoa(x), impl.LogicalVector([]int{x}), vectorOf(impl.KindLogical, want))
	}
	for _, x := range otherLogicals() {
		checkVector(t, strconv.Itoa(x), impl.LogicalVector([]int{1, x, 0}), vectorOf(impl.KindLogical, whole(1), missingItem(), whole(0)))
	}
	for n := range 45 {
		want := vectorOf(impl.KindLogical, slices.Repeat([]impl.Item{whole(1)}, n)...)
		if n > 40 {
			want = impl.Vector{}
		}
		checkVector(t, strconv.Itoa(n)+" values", impl.LogicalVector(slices.Repeat([]int{1}, n)), want)
	}
	checkVector(t, "nil", impl.LogicalVector(nil), vectorOf(impl.KindLogical))
	checkVector(t, "1000 values", impl.LogicalVector(make([]int, 1000)), impl.Vector{})
}

func TestNumberVector(t *testing.T) {
	for _, x := range []int{0, 1, -1, 42, 999999998, 999999999, -999999999} {
		checkVector(t, strconv.Itoa(x), impl.NumberVector([]int{x}), vectorOf(impl.KindNumber, whole(x)))
	}
	for _, x := range []int{1000000000, -1000000000, 4000000000000000000, 4000000000000000001, math.MaxInt, math.MinInt, math.MinInt + 1} {
		checkVector(t, strconv.Itoa(x), impl.NumberVector([]int{7, x}), vectorOf(impl.KindNumber, whole(7), missingItem()))
	}
	for n := range 45 {
		list := make([]int, n)
		for i := range list {
			list[i] = i + 1
		}
		want := numbersUpTo(n)
		if n > 40 {
			want = impl.Vector{}
		}
		checkVector(t, strconv.Itoa(n)+" numbers", impl.NumberVector(list), want)
	}
	checkVector(t, "nil", impl.NumberVector(nil), vectorOf(impl.KindNumber))
	checkVector(t, "1000 numbers", impl.NumberVector(make([]int, 1000)), impl.Vector{})
}

func TestTextVector(t *testing.T) {
	list := []string{"", "a", "NA", "\x00\xff\"", strings.Repeat("x", 60)}
	checkVector(t, "strings", impl.TextVector(list), vectorOf(impl.KindText, word(""), word("a"), word("NA"), word("\x00\xff\""), word(strings.Repeat("x", 60))))
	for i := range list {
		long := slices.Clone(list)
		long[i] = strings.Repeat("x", 61)
		checkVector(t, "a string of 61 bytes", impl.TextVector(long), impl.Vector{})
		long[i] = strings.Repeat("x", 100000)
		checkVector(t, "a string of 100000 bytes", impl.TextVector(long), impl.Vector{})
	}
	for n := range 45 {
		want := vectorOf(impl.KindText, slices.Repeat([]impl.Item{word("s")}, n)...)
		if n > 40 {
			want = impl.Vector{}
		}
		checkVector(t, strconv.Itoa(n)+" strings", impl.TextVector(slices.Repeat([]string{"s"}, n)), want)
	}
	checkVector(t, "nil", impl.TextVector(nil), vectorOf(impl.KindText))
	checkVector(t, "1000 strings", impl.TextVector(make([]string, 1000)), impl.Vector{})
}

func TestListVector(t *testing.T) {
	var parts []impl.Vector
	for _, s := range ordinaryVectors() {
		if depthByText(s.vector) < 3 && cellsByText(s.vector) < 200 {
			parts = append(parts, s.vector)
			v, problem := impl.ListVector([]impl.Vector{s.vector}, nil)
			checkResult(t, s.name, v, problem, listOf(s.vector))
			v, problem = impl.ListVector([]impl.Vector{s.vector, {}}, []string{"", "n 1"})
			checkResult(t, s.name, v, problem, named(listOf(s.vector, impl.Vector{}), "", "n 1"))
		}
	}
	v, problem := impl.ListVector(parts[:5], []string{"a", "", "b", "a", "if"})
	checkResult(t, "5 parts", v, problem, named(listOf(parts[:5]...), "a", "", "b", "a", "if"))
	v, problem = impl.ListVector(nil, nil)
	checkResult(t, "no parts", v, problem, listOf())
	v, problem = impl.ListVector([]impl.Vector{}, []string{})
	checkResult(t, "no parts", v, problem, listOf())
}

// TestListVectorWithEmptyNames also has another number of names than of parts: where all are empty there are none.
func TestListVectorWithEmptyNames(t *testing.T) {
	parts := []impl.Vector{numbersUpTo(1), {}}
	for count := range 5 {
		v, problem := impl.ListVector(parts, make([]string, count))
		checkResult(t, strconv.Itoa(count)+" empty names", v, problem, listOf(parts...))
		v, problem = impl.ListVector(nil, make([]string, count))
		checkResult(t, strconv.Itoa(count)+" empty names and no parts", v, problem, listOf())
	}
}

func TestListVectorLimits(t *testing.T) {
	fits := func(name string, parts []impl.Vector, names ...string) {
		t.Helper()
		v, problem := impl.ListVector(parts, names)
		checkResult(t, name, v, problem, named(listOf(parts...), names...))
	}
	refuse := func(name string, parts []impl.Vector, names ...string) {
		t.Helper()
		v, problem := impl.ListVector(parts, names)
		checkProblem(t, name, v, problem, tooLarge)
	}
	fits("40 parts", make([]impl.Vector, 40))
	refuse("41 parts", make([]impl.Vector, 41))
	refuse("1000 parts", make([]impl.Vector, 1000))
	fits("40 names", make([]impl.Vector, 40), distinct(40, 60)...)
	for cells := 190; cells <= 210; cells++ {
		parts := listOfCells(cells).Parts
		if cells <= 200 {
			fits("cells", parts)
		} else {
			refuse("cells", parts)
		}
	}
	for _, inner := range []impl.Vector{{}, numbersUpTo(1), listOf(), function(1, 1)} {
		fits("depth 3", []impl.Vector{nested(inner, 2)})
		refuse("depth 4", []impl.Vector{nested(inner, 3)})
		refuse("depth 4 behind others", []impl.Vector{{}, numbersUpTo(1), nested(inner, 3)})
	}
	one := []impl.Vector{numbersUpTo(1)}
	fits("a name of 60 bytes", one, strings.Repeat("x", 60))
	refuse("a name of 61 bytes", one, strings.Repeat("x", 61))
	refuse("too many names", one, "a", "b")
	refuse("too many names, one of them empty", one, "", "b")
	refuse("too few names", []impl.Vector{{}, {}}, "a")
	refuse("names of no parts", nil, "a")
}

func TestListVectorOfInvalidParts(t *testing.T) {
	for _, s := range invalidVectors() {
		for i := range 3 {
			parts := []impl.Vector{numbersUpTo(1), {}, vectorOf(impl.KindText, word("a"))}
			parts[i] = s.vector
			v, problem := impl.ListVector(parts, nil)
			checkProblem(t, s.name, v, problem, tooLarge)
			v, problem = impl.ListVector(parts, []string{"a", "b", "c"})
			checkProblem(t, s.name, v, problem, tooLarge)
		}
	}
}

func TestEqualVectors(t *testing.T) {
	list := ordinaryVectors()
	for i, a := range list {
		for j, b := range list {
			if got := impl.EqualVectors(a.vector, b.vector); got != (i == j) {
				t.Errorf("EqualVectors of %s and %s = %t", a.name, b.name, got)
			}
		}
		if !impl.EqualVectors(a.vector, roomy(a.vector)) {
			t.Errorf("%s is not equal to a copy", a.name)
		}
	}
	for _, a := range invalidVectors() {
		if impl.EqualVectors(a.vector, a.vector) {
			t.Errorf("%s is equal to itself", a.name)
		}
		if impl.EqualVectors(a.vector, impl.Vector{}) || impl.EqualVectors(impl.Vector{}, a.vector) {
			t.Errorf("%s is equal to NULL", a.name)
		}
	}
}

// TestEqualVectorsOfOneInvalidVector has pairs that would be equal without what makes one of them invalid.
func TestEqualVectorsOfOneInvalidVector(t *testing.T) {
	for _, pair := range [][2]impl.Vector{
		{numbersUpTo(2), named(numbersUpTo(2), "", "")},
		{numbersUpTo(2), vectorOf(impl.KindNumber, whole(1), ratio(4, 2))},
		{{}, {Code: 1}},
		{function(1, 0), function(1, -1)},
		{listOf(numbersUpTo(2)), listOf(named(numbersUpTo(2), "", ""))},
	} {
		if !impl.EqualVectors(pair[0], pair[0]) || impl.EqualVectors(pair[0], pair[1]) || impl.EqualVectors(pair[1], pair[0]) {
			t.Errorf("%s and %s", fieldsOf(pair[0]), fieldsOf(pair[1]))
		}
	}
}

// fullVector returns a list whose part has all fields of a vector, and the part of a part a code.
func fullVector() impl.Vector {
	part := classed(levelled(named(vectorOf(impl.KindNumber, whole(1), whole(2)), "a", "b"), "u", "v"), "c", "d")
	return classed(named(listOf(part, listOf(function(1, 2), numbersUpTo(2))), "p", "q"), "e")
}

func TestEqualVectorsSeesEachField(t *testing.T) {
	changes := map[string]func(v *impl.Vector){
		"kind":            func(v *impl.Vector) { v.Parts[1].Parts[1] = vectorOf(impl.KindLogical, whole(1), whole(0)) },
		"kind of no item": func(v *impl.Vector) { v.Parts[1].Parts[1] = vectorOf(impl.KindText) },
		"item":            func(v *impl.Vector) { v.Parts[0].Items[1] = whole(1) },
		"missing item":    func(v *impl.Vector) { v.Parts[0].Items[0] = missingItem() },
		"more items":      func(v *impl.Vector) { v.Parts[1].Parts[1] = numbersUpTo(3) },
		"fewer items":     func(v *impl.Vector) { v.Parts[1].Parts[1] = numbersUpTo(1) },
		"name":            func(v *impl.Vector) { v.Parts[0].Names[1] = "c" },
		"empty name":      func(v *impl.Vector) { v.Parts[0].Names[1] = "" },
		"no names":        func(v *impl.Vector) { v.Parts[0].Names = nil },
		"name of a part":  func(v *impl.Vector) { v.Names[0] = "P" },
		"class":           func(v *impl.Vector) { v.Parts[0].Class[1] = "D" },
		"order of class":  func(v *impl.Vector) { v.Parts[0].Class = []string{"d", "c"} },
		"one class":       func(v *impl.Vector) { v.Parts[0].Class = v.Parts[0].Class[:1] },
		"no class":        func(v *impl.Vector) { v.Class = nil },
		"level":           func(v *impl.Vector) { v.Parts[0].Levels[0] = "w" },
		"one more level":  func(v *impl.Vector) { v.Parts[0].Levels = append(v.Parts[0].Levels, "w") },
		"no levels":       func(v *impl.Vector) { v.Parts[0].Levels = nil },
		"code":            func(v *impl.Vector) { v.Parts[1].Parts[0].Code = 2 },
		"environment":     func(v *impl.Vector) { v.Parts[1].Parts[0].Env = 1 },
		"order of parts":  func(v *impl.Vector) { v.Parts[0], v.Parts[1] = v.Parts[1], v.Parts[0] },
		"one part":        func(v *impl.Vector) { v.Parts[1].Parts = v.Parts[1].Parts[:1] },
		"no part":         func(v *impl.Vector) { v.Parts[1].Parts = nil },
	}
	for name, change := range changes {
		v := fullVector()
		change(&v)
		if !impl.IsVector(v) {
			t.Fatalf("%s: no vector", name)
		}
		if impl.EqualVectors(v, fullVector()) || impl.EqualVectors(fullVector(), v) {
			t.Errorf("%s: still equal", name)
		}
	}
	if !impl.EqualVectors(fullVector(), fullVector()) {
		t.Error("not equal to itself")
	}
}

func TestEqualVectorsTakesNilForEmpty(t *testing.T) {
	a := impl.Vector{Kind: impl.KindList, Parts: []impl.Vector{{}}}
	b := impl.Vector{Kind: impl.KindList, Parts: []impl.Vector{{Items: []impl.Item{}, Parts: []impl.Vector{}, Names: []string{}}}, Items: []impl.Item{}, Names: []string{}, Class: []string{}, Levels: []string{}}
	if !impl.EqualVectors(a, b) || !impl.EqualVectors(b, a) {
		t.Error("nil and empty slices differ")
	}
}

// elementsByText returns the elements of v as vectors of one element, the parts of a list as they are.
func elementsByText(v impl.Vector) []impl.Vector {
	if v.Kind == impl.KindFunction {
		return []impl.Vector{v}
	}
	list := slices.Clone(v.Parts)
	for _, x := range v.Items {
		list = append(list, vectorOf(v.Kind, x))
	}
	return list
}

// coercedByText returns the Item of a kind for an Item of the same or an earlier kind.
func coercedByText(x impl.Item, from int, kind int) impl.Item {
	if x == missingItem() || kind != impl.KindText || from == kind {
		return x
	}
	if from == impl.KindLogical {
		return word(map[int]string{0: "FALSE", 1: "TRUE"}[x.Num])
	}
	text := strconv.Itoa(x.Num)
	if x.Den != 1 {
		text += "/" + strconv.Itoa(x.Den)
	}
	return word(text)
}

func coerceByText(v impl.Vector, kind int) (impl.Vector, bool) {
	w := impl.Vector{Kind: kind, Names: v.Names}
	switch {
	case faultOf(v) != "" || kind < 0 || kind > 4:
		return impl.Vector{}, false
	case v.Kind == impl.KindFunction && kind != impl.KindList || v.Kind != impl.KindFunction && v.Kind > kind:
		return impl.Vector{}, false
	case kind == impl.KindList:
		w.Parts = elementsByText(v)
		return w, true
	}
	for _, x := range v.Items {
		w.Items = append(w.Items, coercedByText(x, v.Kind, kind))
	}
	return w, true
}

func TestCoerceVector(t *testing.T) {
	for _, s := range ordinaryVectors() {
		for kind := -2; kind <= 7; kind++ {
			want, isPossible := coerceByText(s.vector, kind)
			got, ok := impl.CoerceVector(s.vector, kind)
			if ok != isPossible {
				t.Errorf("%s to kind %d: %t", s.name, kind, ok)
			}
			checkVector(t, s.name+" to kind "+strconv.Itoa(kind), got, want)
			if ok && !impl.IsVector(got) {
				t.Errorf("%s to kind %d is no vector", s.name, kind)
			}
		}
	}
	for _, s := range invalidVectors() {
		for kind := -2; kind <= 7; kind++ {
			got, ok := impl.CoerceVector(s.vector, kind)
			if ok {
				t.Errorf("%s to kind %d: %t", s.name, kind, ok)
			}
			checkVector(t, s.name, got, impl.Vector{})
		}
	}
}

func TestCoerceVectorInWords(t *testing.T) {
	logical := named(vectorOf(impl.KindLogical, whole(1), missingItem(), whole(0)), "a", "", "b")
	factor := classed(levelled(vectorOf(impl.KindNumber, whole(2), missingItem()), "u", "v"), "factor")
	cases := []struct {
		name string
		from impl.Vector
		kind int
		want impl.Vector
	}{
		{"logical to number", logical, impl.KindNumber, named(vectorOf(impl.KindNumber, whole(1), missingItem(), whole(0)), "a", "", "b")},
		{"logical to text", logical, impl.KindText, named(vectorOf(impl.KindText, word("TRUE"), missingItem(), word("FALSE")), "a", "", "b")},
		{"logical to list", logical, impl.KindList, named(listOf(vectorOf(impl.KindLogical, whole(1)), vectorOf(impl.KindLogical, missingItem()), vectorOf(impl.KindLogical, whole(0))), "a", "", "b")},
		{"number to text", vectorOf(impl.KindNumber, ratio(-1, 2), whole(3), missingItem()), impl.KindText, vectorOf(impl.KindText, word("-1/2"), word("3"), missingItem())},
		{"factor to number", factor, impl.KindNumber, vectorOf(impl.KindNumber, whole(2), missingItem())},
		{"factor to text", factor, impl.KindText, vectorOf(impl.KindText, word("2"), missingItem())},
		{"factor to list", factor, impl.KindList, listOf(vectorOf(impl.KindNumber, whole(2)), vectorOf(impl.KindNumber, missingItem()))},
		{"text to text", classed(vectorOf(impl.KindText, word("a")), "c"), impl.KindText, vectorOf(impl.KindText, word("a"))},
		{"list to list", classed(listOf(classed(numbersUpTo(1), "in")), "c"), impl.KindList, listOf(classed(numbersUpTo(1), "in"))},
		{"function to list", classed(function(3, 4), "c"), impl.KindList, listOf(classed(function(3, 4), "c"))},
		{"NULL to NULL", impl.Vector{}, impl.KindNull, impl.Vector{}},
		{"NULL to logical", impl.Vector{}, impl.KindLogical, vectorOf(impl.KindLogical)},
		{"NULL to list", impl.Vector{}, impl.KindList, listOf()},
	}
	for _, c := range cases {
		got, ok := impl.CoerceVector(c.from, c.kind)
		if !ok {
			t.Errorf("%s: no", c.name)
		}
		checkVector(t, c.name, got, c.want)
	}
	for _, kind := range []int{impl.KindNull, impl.KindLogical, impl.KindNumber, impl.KindText, impl.KindFunction} {
		if v, ok := impl.CoerceVector(function(3, 4), kind); ok {
			t.Errorf("a function to kind %d: %s", kind, fieldsOf(v))
		}
	}
}

func namedByText(part impl.Vector, k int, label string) string {
	own := ""
	if len(part.Names) > 0 {
		own = part.Names[k]
	}
	switch {
	case label == "":
		return own
	case own != "":
		return strings.Join([]string{label, own}, ".")
	case lengthByText(part) == 1:
		return label
	}
	return label + strconv.Itoa(k+1)
}

// combineByText returns the combined vector, which may be too large.
func combineByText(parts []impl.Vector, labels []string) impl.Vector {
	var v impl.Vector
	for _, part := range parts {
		kind := part.Kind
		if kind == impl.KindFunction {
			kind = impl.KindList
		}
		v.Kind = max(v.Kind, kind)
	}
	for i, part := range parts {
		for k, element := range elementsByText(part) {
			if v.Kind == impl.KindList {
				v.Parts = append(v.Parts, element)
			} else {
				v.Items = append(v.Items, coercedByText(element.Items[0], part.Kind, v.Kind))
			}
			label := ""
			if len(labels) > 0 {
				label = labels[i]
			}
			v.Names = append(v.Names, namedByText(part, k, label))
		}
	}
	if longest(v.Names) == 0 {
		v.Names = nil
	}
	return v
}

func checkCombined(t *testing.T, name string, parts []impl.Vector, labels []string) {
	t.Helper()
	want := combineByText(parts, labels)
	v, problem := impl.CombineVectors(parts, labels)
	if faultOf(want) != "" {
		checkProblem(t, name, v, problem, tooLarge)
		return
	}
	checkResult(t, name, v, problem, want)
}

func TestCombineVectorsInWords(t *testing.T) {
	truth, number, text, missing := vectorOf(impl.KindLogical, whole(1), whole(0)), vectorOf(impl.KindNumber, ratio(1, 2)), vectorOf(impl.KindText, word("x")), vectorOf(impl.KindLogical, missingItem())
	cases := []struct {
		name  string
		parts []impl.Vector
		want  impl.Vector
	}{
		{"nothing", nil, impl.Vector{}},
		{"NULL and NULL", []impl.Vector{{}, {}}, impl.Vector{}},
		{"one vector", []impl.Vector{truth}, truth},
		{"logical values", []impl.Vector{truth, missing, truth}, vectorOf(impl.KindLogical, whole(1), whole(0), missingItem(), whole(1), whole(0))},
		{"NULL and no numbers", []impl.Vector{{}, vectorOf(impl.KindNumber)}, vectorOf(impl.KindNumber)},
		{"logical values and no strings", []impl.Vector{truth, vectorOf(impl.KindText)}, vectorOf(impl.KindText, word("TRUE"), word("FALSE"))},
		{"logical values and numbers", []impl.Vector{truth, number, missing}, vectorOf(impl.KindNumber, whole(1), whole(0), ratio(1, 2), missingItem())},
		{"logical values, numbers and strings", []impl.Vector{missing, truth, {}, number, text}, vectorOf(impl.KindText, missingItem(), word("TRUE"), word("FALSE"), word("1/2"), word("x"))},
		{"numbers and a list", []impl.Vector{number, listOf(text, listOf(truth))}, listOf(number, text, listOf(truth))},
		{"a function alone", []impl.Vector{classed(function(1, 2), "f")}, listOf(classed(function(1, 2), "f"))},
		{"a function and strings", []impl.Vector{function(1, 2), text, {}}, listOf(function(1, 2), text)},
		{"NULL and no parts", []impl.Vector{{}, listOf()}, listOf()},
		{"a list with NULL", []impl.Vector{listOf(impl.Vector{}), {}, listOf(impl.Vector{})}, listOf(impl.Vector{}, impl.Vector{})},
		{"classes", []impl.Vector{classed(number, "c"), classed(number, "c")}, vectorOf(impl.KindNumber, ratio(1, 2), ratio(1, 2))},
		{"factors", []impl.Vector{levelled(numbersUpTo(2), "a", "b"), levelled(numbersUpTo(1), "c")}, vectorOf(impl.KindNumber, whole(1), whole(2), whole(1))},
		{"names", []impl.Vector{named(truth, "a", ""), number, named(text, "b")}, named(vectorOf(impl.KindText, word("TRUE"), word("FALSE"), word("1/2"), word("x")), "a", "", "", "b")},
	}
	for _, c := range cases {
		v, problem := impl.CombineVectors(c.parts, nil)
		checkResult(t, c.name, v, problem, c.want)
		v, problem = impl.CombineVectors(c.parts, make([]string, len(c.parts)))
		checkResult(t, c.name+" with empty labels", v, problem, c.want)
	}
}

func TestCombineVectorsNames(t *testing.T) {
	one, three := numbersUpTo(1), numbersUpTo(3)
	list := listOf(impl.Vector{}, numbersUpTo(2))
	cases := []struct {
		parts  []impl.Vector
		labels []string
		want   []string
	}{
		{[]impl.Vector{one, three}, nil, nil},
		{[]impl.Vector{one, three}, []string{"", ""}, nil},
		{[]impl.Vector{one, three}, []string{"a", ""}, []string{"a", "", "", ""}},
		{[]impl.Vector{one, three}, []string{"a", "b"}, []string{"a", "b1", "b2", "b3"}},
		{[]impl.Vector{one, three}, []string{"a", "a"}, []string{"a", "a1", "a2", "a3"}},
		{[]impl.Vector{three}, []string{"x 1"}, []string{"x 11", "x 12", "x 13"}},
		{[]impl.Vector{named(one, "p")}, []string{"a"}, []string{"a.p"}},
		{[]impl.Vector{named(one, "p")}, []string{""}, []string{"p"}},
		{[]impl.Vector{named(three, "p", "", "q"), one}, nil, []string{"p", "", "q", ""}},
		{[]impl.Vector{named(three, "p", "", "q"), one}, []string{"a", "b"}, []string{"a.p", "a2", "a.q", "b"}},
		{[]impl.Vector{named(three, "", "", "q"), one}, []string{"", "b"}, []string{"", "", "q", "b"}},
		{[]impl.Vector{named(one, "."), one}, []string{".", "."}, []string{"...", "."}},
		{[]impl.Vector{{}, one}, []string{"a", "b"}, []string{"b"}},
		{[]impl.Vector{{}, one}, []string{"a", ""}, nil},
		{[]impl.Vector{{}, vectorOf(impl.KindText)}, []string{"a", "b"}, nil},
		{[]impl.Vector{{}}, []string{strings.Repeat("x", 61)}, nil},
		{[]impl.Vector{function(1, 1), function(2, 2)}, []string{"f", ""}, []string{"f", ""}},
		{[]impl.Vector{function(1, 1), three}, []string{"f", "g"}, []string{"f", "g1", "g2", "g3"}},
		{[]impl.Vector{list, listOf(one)}, []string{"a", "b"}, []string{"a1", "a2", "b"}},
		{[]impl.Vector{named(list, "", "q"), named(listOf(one), "r")}, []string{"a", "b"}, []string{"a1", "a.q", "b.r"}},
		{[]impl.Vector{listOf(named(one, "in"))}, []string{"a"}, []string{"a"}},
	}
	for _, c := range cases {
		v, problem := impl.CombineVectors(c.parts, c.labels)
		if problem != "" || !slices.Equal(v.Names, c.want) {
			t.Errorf("names %q with the labels %q, not %q (%s)", v.Names, c.labels, c.want, problem)
		}
		checkCombined(t, "names", c.parts, c.labels)
	}
}

func TestCombineVectorsProblems(t *testing.T) {
	one := numbersUpTo(1)
	for _, s := range invalidVectors() {
		for i := range 3 {
			parts := []impl.Vector{one, {}, numbersUpTo(40)}
			parts[i] = s.vector
			v, problem := impl.CombineVectors(parts, nil)
			checkProblem(t, s.name, v, problem, invalidVector)
			v, problem = impl.CombineVectors(parts, []string{"too few"})
			checkProblem(t, s.name+" and invalid labels", v, problem, invalidVector)
		}
	}
	for count := 1; count <= 5; count++ {
		for parts := range 5 {
			if count == parts {
				continue
			}
			list := slices.Repeat([]impl.Vector{numbersUpTo(20)}, parts)
			v, problem := impl.CombineVectors(list, distinct(count, 3))
			checkProblem(t, "labels", v, problem, "invalid labels")
			v, problem = impl.CombineVectors(list, make([]string, count))
			checkProblem(t, "empty labels", v, problem, "invalid labels")
		}
	}
}

func TestCombineVectorsLengths(t *testing.T) {
	for a := range 42 {
		for b := range 6 {
			parts := []impl.Vector{numbersUpTo(min(a, 40)), numbersUpTo(b), numbersUpTo(max(a-40, 0))}
			v, problem := impl.CombineVectors(parts, nil)
			if a+b <= 40 && (problem != "" || impl.LengthOf(v) != a+b) {
				t.Errorf("%d and %d: length %d, %s", a, b, impl.LengthOf(v), problem)
			}
			checkCombined(t, "lengths", parts, nil)
			checkCombined(t, "lengths", parts, []string{"a", "", "c"})
		}
	}
	many := slices.Repeat([]impl.Vector{vectorOf(impl.KindText, word("s"))}, 1000)
	for _, count := range []int{39, 40, 41, 1000} {
		checkCombined(t, "strings", many[:count], nil)
	}
	checkCombined(t, "1000 times NULL", make([]impl.Vector, 1000), distinct(1000, 4))
	checkCombined(t, "100 lists", slices.Repeat([]impl.Vector{listOfCells(200)}, 100), nil)
}

func TestCombineVectorsCellsAndDepth(t *testing.T) {
	for cells := 90; cells <= 110; cells++ {
		checkCombined(t, "cells", []impl.Vector{listOfCells(cells), listOfCells(100)}, nil)
	}
	v, problem := impl.CombineVectors([]impl.Vector{listOfCells(100), listOfCells(100)}, nil)
	checkResult(t, "200 cells", v, problem, listOf(slices.Concat(listOfCells(100).Parts, listOfCells(100).Parts)...))
	v, problem = impl.CombineVectors([]impl.Vector{listOfCells(100), listOfCells(101)}, nil)
	checkProblem(t, "201 cells", v, problem, tooLarge)
	// Each number costs two cells where it becomes a part.
	for n := range 41 {
		checkCombined(t, "numbers and cells", []impl.Vector{numbersUpTo(n), listOfCells(130)}, nil)
	}
	v, problem = impl.CombineVectors([]impl.Vector{nested(numbersUpTo(1), 3), numbersUpTo(1)}, nil)
	checkResult(t, "depth 3", v, problem, listOf(nested(numbersUpTo(1), 2), numbersUpTo(1)))
	v, problem = impl.CombineVectors([]impl.Vector{nested(numbersUpTo(1), 4)}, nil)
	checkProblem(t, "depth 4", v, problem, invalidVector)
}

func TestCombineVectorsLongNames(t *testing.T) {
	for length := 55; length <= 63; length++ {
		label := strings.Repeat("x", length)
		checkCombined(t, "label alone", []impl.Vector{{}, numbersUpTo(1)}, []string{"", label})
		checkCombined(t, "label and a digit", []impl.Vector{numbersUpTo(9)}, []string{label})
		checkCombined(t, "label and two digits", []impl.Vector{numbersUpTo(10)}, []string{label})
		checkCombined(t, "label and name", []impl.Vector{named(numbersUpTo(2), "", "pq")}, []string{label})
		checkCombined(t, "label of nothing", []impl.Vector{vectorOf(impl.KindText)}, []string{label})
	}
	for _, c := range []struct {
		length  int
		part    impl.Vector
		problem string
	}{
		{60, numbersUpTo(1), ""}, {61, numbersUpTo(1), tooLarge}, {59, numbersUpTo(9), ""}, {60, numbersUpTo(9), tooLarge}, {58, numbersUpTo(40), ""}, {59, numbersUpTo(10), tooLarge},
		{58, named(numbersUpTo(1), "p"), ""}, {59, named(numbersUpTo(1), "p"), tooLarge}, {100000, numbersUpTo(1), tooLarge}, {100000, impl.Vector{}, ""},
	} {
		if _, problem := impl.CombineVectors([]impl.Vector{c.part}, []string{strings.Repeat("x", c.length)}); problem != c.problem {
			t.Errorf("a label of %d bytes and %s: %q, not %q", c.length, fieldsOf(c.part), problem, c.problem)
		}
	}
}

func TestCombineVectorsOfSamples(t *testing.T) {
	list := ordinaryVectors()
	for _, a := range list {
		checkCombined(t, a.name, []impl.Vector{a.vector}, nil)
		checkCombined(t, a.name, []impl.Vector{a.vector}, []string{"l"})
		for _, b := range list {
			checkCombined(t, a.name+" and "+b.name, []impl.Vector{a.vector, b.vector}, nil)
			checkCombined(t, a.name+" and "+b.name, []impl.Vector{a.vector, b.vector}, []string{"", "l"})
		}
	}
}

func TestCombineVectorsOfRandomVectors(t *testing.T) {
	source := rand.New(rand.NewPCG(4, 2))
	for range 5000 {
		var parts []impl.Vector
		var labels []string
		for range source.IntN(6) {
			parts = append(parts, randomVector(source, source.IntN(6), 6, 2))
			labels = append(labels, []string{"", "a", "b.c"}[source.IntN(3)])
		}
		checkCombined(t, "without labels", parts, nil)
		checkCombined(t, "with labels", parts, labels)
	}
}

// combined returns c(a, b), and the zero value and the problem of the first step that has one.
func combined(problem string, parts ...impl.Vector) (impl.Vector, string) {
	if problem != "" {
		return impl.Vector{}, problem
	}
	return impl.CombineVectors(parts, nil)
}

// checkAssociative checks that c(c(a, b), d), c(a, c(b, d)) and c(a, b, d) are the same, and that lengths are added.
func checkAssociative(t *testing.T, a impl.Vector, b impl.Vector, d impl.Vector) {
	t.Helper()
	want, problem := impl.CombineVectors([]impl.Vector{a, b, d}, nil)
	left, problemOfLeft := combined("", a, b)
	left, problemOfLeft = combined(problemOfLeft, left, d)
	right, problemOfRight := combined("", b, d)
	right, problemOfRight = combined(problemOfRight, a, right)
	if problemOfLeft != problem || problemOfRight != problem {
		t.Errorf("problems %q, %q and %q", problem, problemOfLeft, problemOfRight)
	}
	checkVector(t, "c(c(a, b), d)", left, want)
	checkVector(t, "c(a, c(b, d))", right, want)
	if length := impl.LengthOf(a) + impl.LengthOf(b) + impl.LengthOf(d); problem == "" && impl.LengthOf(want) != length {
		t.Errorf("length %d, not %d", impl.LengthOf(want), length)
	}
}

func TestCombiningIsAssociative(t *testing.T) {
	source := rand.New(rand.NewPCG(4, 3))
	for range 3000 {
		kind := source.IntN(6)
		size := []int{2, 5, 16, 20}[source.IntN(4)]
		checkAssociative(t, randomVector(source, kind, size, 2), randomVector(source, kind, size, 2), randomVector(source, kind, size, 2))
	}
	for kind := impl.KindLogical; kind <= impl.KindText; kind++ {
		for n := range 41 {
			items := slices.Repeat([]impl.Item{missingItem()}, n)
			checkAssociative(t, vectorOf(kind, items...), vectorOf(kind, items[:n/2]...), vectorOf(kind))
			checkAssociative(t, vectorOf(kind), vectorOf(kind, items...), vectorOf(kind, items[:min(n, 1)]...))
		}
	}
}

// TestCombiningWithNothing checks that NULL and empty vectors of the kind change nothing but attributes.
func TestCombiningWithNothing(t *testing.T) {
	for _, s := range ordinaryVectors() {
		kind := min(s.vector.Kind, impl.KindList)
		want, _ := coerceByText(s.vector, kind)
		for _, empty := range []impl.Vector{{}, {Kind: kind}} {
			v, problem := impl.CombineVectors([]impl.Vector{s.vector, empty}, nil)
			checkResult(t, s.name+" and nothing", v, problem, want)
			v, problem = impl.CombineVectors([]impl.Vector{empty, s.vector}, nil)
			checkResult(t, "nothing and "+s.name, v, problem, want)
		}
	}
}

// repeatByText returns the repeated vector, which may be too large.
func repeatByText(v impl.Vector, n int) impl.Vector {
	w := impl.Vector{Kind: v.Kind, Items: slices.Repeat(v.Items, n), Parts: slices.Repeat(v.Parts, n), Names: slices.Repeat(v.Names, n)}
	if len(v.Levels) > 0 {
		w.Class, w.Levels = v.Class, v.Levels
	}
	return w
}

func TestRepeatVector(t *testing.T) {
	for _, s := range ordinaryVectors() {
		for n := -3; n <= 45; n++ {
			v, problem := impl.RepeatVector(s.vector, n)
			switch {
			case s.vector.Kind == impl.KindFunction:
				checkProblem(t, s.name, v, problem, notElements)
			case n < 0 || n > 40 || faultOf(repeatByText(s.vector, n)) != "":
				checkProblem(t, s.name+" "+strconv.Itoa(n)+" times", v, problem, tooLarge)
			default:
				checkResult(t, s.name+" "+strconv.Itoa(n)+" times", v, problem, repeatByText(s.vector, n))
			}
		}
		for _, n := range []int{math.MinInt, math.MaxInt, math.MaxInt/2 + 1, 1 << 32, -1 << 32, 1000} {
			if v, problem := impl.RepeatVector(s.vector, n); s.vector.Kind != impl.KindFunction {
				checkProblem(t, s.name, v, problem, tooLarge)
			}
		}
	}
	for _, s := range invalidVectors() {
		for _, n := range []int{-1, 0, 1, 2, 41} {
			v, problem := impl.RepeatVector(s.vector, n)
			checkProblem(t, s.name, v, problem, invalidVector)
		}
	}
}

func TestRepeatVectorInWords(t *testing.T) {
	factor := classed(levelled(named(vectorOf(impl.KindNumber, whole(2), missingItem()), "p", ""), "u", "v"), "factor")
	cases := []struct {
		name string
		from impl.Vector
		n    int
		want impl.Vector
	}{
		{"numbers", numbersUpTo(2), 2, vectorOf(impl.KindNumber, whole(1), whole(2), whole(1), whole(2))},
		{"names", named(numbersUpTo(2), "a", ""), 2, named(vectorOf(impl.KindNumber, whole(1), whole(2), whole(1), whole(2)), "a", "", "a", "")},
		{"no names of no elements", named(numbersUpTo(2), "a", ""), 0, vectorOf(impl.KindNumber)},
		{"a class", classed(numbersUpTo(1), "c"), 1, numbersUpTo(1)},
		{"a factor", factor, 1, factor},
		{"a factor twice", factor, 2, classed(levelled(named(vectorOf(impl.KindNumber, whole(2), missingItem(), whole(2), missingItem()), "p", "", "p", ""), "u", "v"), "factor")},
		{"no factor", factor, 0, classed(levelled(vectorOf(impl.KindNumber), "u", "v"), "factor")},
		{"levels without a class", levelled(numbersUpTo(1), "u"), 2, levelled(vectorOf(impl.KindNumber, whole(1), whole(1)), "u")},
		{"a list", classed(named(listOf(classed(numbersUpTo(2), "in"), impl.Vector{}), "a", "b"), "out"), 2, named(listOf(classed(numbersUpTo(2), "in"), impl.Vector{}, classed(numbersUpTo(2), "in"), impl.Vector{}), "a", "b", "a", "b")},
		{"NULL", impl.Vector{}, 40, impl.Vector{}},
		{"no strings", vectorOf(impl.KindText), 40, vectorOf(impl.KindText)},
		{"one string", vectorOf(impl.KindText, word("a")), 40, vectorOf(impl.KindText, slices.Repeat([]impl.Item{word("a")}, 40)...)},
	}
	for _, c := range cases {
		v, problem := impl.RepeatVector(c.from, c.n)
		checkResult(t, c.name, v, problem, c.want)
	}
}

func TestRepeatVectorLimits(t *testing.T) {
	for _, c := range []struct {
		length, n int
		problem   string
	}{{1, 40, ""}, {1, 41, tooLarge}, {40, 1, ""}, {20, 2, ""}, {21, 2, tooLarge}, {2, 20, ""}, {2, 21, tooLarge}, {13, 3, ""}, {14, 3, tooLarge}, {40, 2, tooLarge}, {0, 40, ""}, {0, 41, tooLarge}, {0, -1, tooLarge}, {40, 0, ""}} {
		for _, v := range []impl.Vector{numbersUpTo(c.length), listOf(make([]impl.Vector, c.length)...)} {
			got, problem := impl.RepeatVector(v, c.n)
			if problem != c.problem || problem == "" && impl.LengthOf(got) != c.length*c.n {
				t.Errorf("%d elements %d times: length %d, %q", c.length, c.n, impl.LengthOf(got), problem)
			}
		}
	}
	for _, c := range []struct {
		cells, n int
		problem  string
	}{{100, 2, ""}, {101, 2, tooLarge}, {50, 4, ""}, {51, 4, tooLarge}, {200, 1, ""}, {5, 40, ""}, {6, 34, tooLarge}} {
		if v, problem := impl.RepeatVector(listOfCells(c.cells), c.n); problem != c.problem || problem == "" && impl.CellCount(v) != c.cells*c.n {
			t.Errorf("%d cells %d times: %d cells, %q", c.cells, c.n, impl.CellCount(v), problem)
		}
	}
	v, problem := impl.RepeatVector(nested(numbersUpTo(1), 3), 2)
	checkResult(t, "depth 3", v, problem, listOf(nested(numbersUpTo(1), 2), nested(numbersUpTo(1), 2)))
}

// TestRepeatingIsCombining compares with the combination of n equal vectors.
func TestRepeatingIsCombining(t *testing.T) {
	source := rand.New(rand.NewPCG(4, 4))
	for range 2000 {
		v := randomVector(source, source.IntN(5), 8, 2)
		n := source.IntN(7) + 1
		want, problemOfWant := impl.CombineVectors(slices.Repeat([]impl.Vector{v}, n), nil)
		got, problem := impl.RepeatVector(v, n)
		if problem != problemOfWant {
			t.Errorf("problems %q and %q", problem, problemOfWant)
		}
		got.Class, got.Levels = nil, nil
		checkVector(t, "repeated", got, want)
	}
}

func TestSequenceOf(t *testing.T) {
	starts := []int{0, 1, -1, 7, -20, 999999999, 999999998, 999999960, 999999959, -999999999, -999999960, 500000000}
	for _, a := range starts {
		for b := a - 45; b <= a+45; b++ {
			v, problem := impl.SequenceOf(a, b)
			want := impl.Vector{Kind: impl.KindNumber}
			for x := a; x < b; x++ {
				want.Items = append(want.Items, whole(x))
			}
			for x := a; x > b; x-- {
				want.Items = append(want.Items, whole(x))
			}
			want.Items = append(want.Items, whole(b))
			if b < -999999999 || b > 999999999 || b-a > 39 || a-b > 39 {
				checkProblem(t, "sequence", v, problem, tooLarge)
			} else {
				checkResult(t, "sequence", v, problem, want)
			}
		}
	}
}

func TestSequenceOfLargeNumbers(t *testing.T) {
	large := []int{1000000000, -1000000000, 1 << 32, 4000000000000000000, math.MaxInt, math.MinInt, math.MinInt + 1}
	for _, a := range large {
		for _, b := range append([]int{0, 1, a - 1, a + 1, 999999999, -999999999}, large...) {
			v, problem := impl.SequenceOf(a, b)
			checkProblem(t, "sequence", v, problem, tooLarge)
			v, problem = impl.SequenceOf(b, a)
			checkProblem(t, "sequence", v, problem, tooLarge)
		}
	}
	v, problem := impl.SequenceOf(-999999999, 999999999)
	checkProblem(t, "sequence of all numbers", v, problem, tooLarge)
	v, problem = impl.SequenceOf(999999960, 999999999)
	if problem != "" || impl.LengthOf(v) != 40 {
		t.Errorf("length %d, %q", impl.LengthOf(v), problem)
	}
}

func TestFormatVectorInWords(t *testing.T) {
	factor := classed(levelled(named(vectorOf(impl.KindNumber, whole(2), missingItem()), "p", ""), "u", "v w"), "factor")
	for want, v := range map[string]impl.Vector{
		"NULL":                                   {},
		"<function>":                             function(-999, 99999),
		"structure(<function>, class = \"f\")":   classed(function(1, 1), "f"),
		"TRUE":                                   vectorOf(impl.KindLogical, whole(1)),
		"FALSE":                                  vectorOf(impl.KindLogical, whole(0)),
		"NA":                                     vectorOf(impl.KindLogical, missingItem()),
		"NA_number_":                             vectorOf(impl.KindNumber, missingItem()),
		"NA_character_":                          vectorOf(impl.KindText, missingItem()),
		"-7/3":                                   vectorOf(impl.KindNumber, ratio(-7, 3)),
		"0":                                      vectorOf(impl.KindNumber, whole(0)),
		"\"\"":                                   vectorOf(impl.KindText, word("")),
		"\"NA\"":                                 vectorOf(impl.KindText, word("NA")),
		"\"a\\\"\\\\\\n\\x00\\xff\"":             vectorOf(impl.KindText, word("a\"\\\n\x00\xff")),
		"logical(0)":                             vectorOf(impl.KindLogical),
		"numeric(0)":                             vectorOf(impl.KindNumber),
		"character(0)":                           vectorOf(impl.KindText),
		"list()":                                 listOf(),
		"c(TRUE, NA, FALSE)":                     vectorOf(impl.KindLogical, whole(1), missingItem(), whole(0)),
		"c(1/2, NA_number_)":                     vectorOf(impl.KindNumber, ratio(1, 2), missingItem()),
		"c(a = 1/2, b = NA_number_)":             named(vectorOf(impl.KindNumber, ratio(1, 2), missingItem()), "a", "b"),
		"c(\"x\", NA_character_)":                vectorOf(impl.KindText, word("x"), missingItem()),
		"c(a = 1)":                               named(numbersUpTo(1), "a"),
		"c(1, a = 2, 3)":                         named(numbersUpTo(3), "", "a", ""),
		"c(`if` = 1, ... = 2, `a-b` = 3)":        named(numbersUpTo(3), "if", "...", "a-b"),
		"c(\"a b\" = 1, \"`\" = 2, \"\\n\" = 3)": named(numbersUpTo(3), "a b", "`", "\n"),
		"c(abcdefghijklmnopqrst = 1, \"abcdefghijklmnopqrstu\" = 2)": named(numbersUpTo(2), "abcdefghijklmnopqrst", "abcdefghijklmnopqrstu"),
		"list(1)":                 listOf(numbersUpTo(1)),
		"list(c(1, 2), NULL)":     listOf(numbersUpTo(2), impl.Vector{}),
		"list(f = <function>, 1)": named(listOf(function(1, 1), numbersUpTo(1)), "f", ""),
		"list(a = list(b = c(c = 1)), list(numeric(0)))":                                  named(listOf(named(listOf(named(numbersUpTo(1), "c")), "b"), listOf(vectorOf(impl.KindNumber))), "a", ""),
		"structure(c(p = 2, NA_number_), levels = c(\"u\", \"v w\"), class = \"factor\")": factor,
		"structure(1, levels = \"u\")":                                                    levelled(numbersUpTo(1), "u"),
		"structure(numeric(0), levels = c(\"u\", \"\\\"\"))":                              levelled(vectorOf(impl.KindNumber), "u", "\""),
		"structure(list(structure(TRUE, class = \"in\")), class = c(\"a\", \"b\"))":       classed(listOf(classed(vectorOf(impl.KindLogical, whole(1)), "in")), "a", "b"),
		"structure(character(0), class = \"c\")":                                          classed(vectorOf(impl.KindText), "c"),
		"structure(\"x\", class = \"c\")":                                                 classed(vectorOf(impl.KindText, word("x")), "c"),
		"structure(list(structure(c(x = 1), levels = \"u\")), class = \"d\")":             classed(listOf(levelled(named(numbersUpTo(1), "x"), "u")), "d"),
	} {
		if got := impl.FormatVector(v); got != want {
			t.Errorf("%s, not %s", got, want)
		}
	}
}

// formatByText writes a vector from the inside to the outside.
func formatByText(v impl.Vector) string {
	var texts []string
	for _, element := range elementsByText(v) {
		if v.Kind == impl.KindList {
			texts = append(texts, formatByText(element))
		} else if v.Kind != impl.KindFunction {
			texts = append(texts, itemText(element.Items[0], v.Kind))
		}
	}
	for i, name := range v.Names {
		switch {
		case name == "":
		case impl.IsName(name):
			texts[i] = impl.FormatName(name) + " = " + texts[i]
		default:
			texts[i] = impl.QuoteString(name) + " = " + texts[i]
		}
	}
	inner := strings.Join(texts, ", ")
	text := []string{"NULL", "c(" + inner + ")", "c(" + inner + ")", "c(" + inner + ")", "list(" + inner + ")", "<function>"}[v.Kind]
	if v.Kind >= impl.KindLogical && v.Kind <= impl.KindText && len(texts) == 0 {
		text = []string{"logical(0)", "numeric(0)", "character(0)"}[v.Kind-1]
	}
	if v.Kind <= impl.KindText && len(texts) == 1 && len(v.Names) == 0 {
		text = inner
	}
	if len(v.Levels)+len(v.Class) == 0 {
		return text
	}
	return "structure(" + text + attributeText("levels", v.Levels) + attributeText("class", v.Class) + ")"
}

func attributeText(name string, list []string) string {
	var texts []string
	for _, s := range list {
		texts = append(texts, impl.QuoteString(s))
	}
	switch len(list) {
	case 0:
		return ""
	case 1:
		return ", " + name + " = " + texts[0]
	}
	return ", " + name + " = c(" + strings.Join(texts, ", ") + ")"
}

func itemText(x impl.Item, kind int) string {
	if x == missingItem() {
		return map[int]string{impl.KindLogical: "NA", impl.KindNumber: "NA_number_", impl.KindText: "NA_character_"}[kind]
	}
	if kind == impl.KindText {
		return impl.QuoteString(x.Text)
	}
	return coercedByText(x, kind, impl.KindText).Text
}

func TestFormatVector(t *testing.T) {
	seen := map[string]string{}
	for _, s := range ordinaryVectors() {
		got := impl.FormatVector(s.vector)
		if want := formatByText(s.vector); got != want {
			t.Errorf("%s: %s, not %s", s.name, got, want)
		}
		if other := seen[got]; other != "" && s.vector.Kind != impl.KindFunction && !strings.Contains(got, "<function>") {
			t.Errorf("%s and %s have the same text", s.name, other)
		}
		seen[got] = s.name
	}
	for _, s := range invalidVectors() {
		if got := impl.FormatVector(s.vector); got != "" {
			t.Errorf("%s: %s", s.name, got)
		}
	}
	source := rand.New(rand.NewPCG(4, 5))
	for range 5000 {
		v := randomVector(source, source.IntN(6), 6, 3)
		if got, want := impl.FormatVector(v), formatByText(v); got != want {
			t.Errorf("%s, not %s", got, want)
		}
	}
}

// TestVectorFunctionsShareNoMemory also checks that they change nothing, not even behind the end of a slice.
func TestVectorFunctionsShareNoMemory(t *testing.T) {
	for _, s := range slices.Concat(ordinaryVectors(), []sample{{"all fields", fullVector()}}) {
		v := roomy(s.vector)
		parts := roomyList([]impl.Vector{v, v, {}})
		names := roomySlice([]string{"a", "", "b"}, "mark")
		before := contentsOf(parts) + strings.Join(names[:cap(names)], " ")
		arguments := append(regionsOfList(parts), regionOf(names)...)
		check := func(name string, w impl.Vector) {
			t.Helper()
			checkApart(t, s.name+": "+name, regionsOf(w), arguments)
		}
		for kind := range 5 {
			w, _ := impl.CoerceVector(parts[0], kind)
			check("CoerceVector", w)
		}
		for n := range 4 {
			w, _ := impl.RepeatVector(parts[0], n)
			check("RepeatVector", w)
		}
		for _, labels := range [][]string{nil, names} {
			w, _ := impl.ListVector(parts, labels)
			check("ListVector", w)
			w, _ = impl.CombineVectors(parts, labels)
			check("CombineVectors", w)
		}
		w, _ := impl.ListVector(parts[:1], nil)
		check("ListVector", w)
		w, _ = impl.CombineVectors(parts[:1], nil)
		check("CombineVectors", w)
		checkApart(t, s.name+": ImplicitClass", regionOf(impl.ImplicitClass(parts[0])), arguments)
		impl.IsVector(parts[0])
		impl.CellCount(parts[0])
		impl.LengthOf(parts[0])
		impl.EqualVectors(parts[0], parts[1])
		impl.FormatVector(parts[0])
		if after := contentsOf(parts) + strings.Join(names[:cap(names)], " "); after != before {
			t.Errorf("%s: the arguments have changed", s.name)
		}
	}
}

func TestVectorFunctionsKeepTheirLists(t *testing.T) {
	numbers := []int{1, 0, 7, -3, 5, 1, 0, 2}
	words := []string{"a", "", "c", "d", "e"}
	keptNumbers, keptWords := slices.Clone(numbers), slices.Clone(words)
	first, second := impl.LogicalVector(numbers[:4]), impl.NumberVector(numbers[:4])
	checkApart(t, "LogicalVector", regionsOf(first), regionOf(numbers))
	checkApart(t, "NumberVector", regionsOf(second), regionOf(numbers))
	checkApart(t, "TextVector", regionsOf(impl.TextVector(words[:3])), regionOf(words))
	list, _ := impl.ListVector([]impl.Vector{first, second, {}}, words[:3])
	checkApart(t, "ListVector", regionsOf(list), regionOf(words), regionsOf(first), regionsOf(second))
	whole, _ := impl.CombineVectors([]impl.Vector{first, second, {}}, words[:3])
	checkApart(t, "CombineVectors", regionsOf(whole), regionOf(words), regionsOf(first), regionsOf(second))
	if !slices.Equal(numbers, keptNumbers) || !slices.Equal(words, keptWords) {
		t.Error("the arguments have changed")
	}
}
