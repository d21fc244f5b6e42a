package tests

import (
	"fmt"
	"math"
	"math/rand/v2"
	"slices"
	"strings"
	"testing"

	"loop.example/g03406/impl"
)

const (
	invalidNames     = "invalid names"
	invalidSubscript = "invalid subscript"
	outOfBounds      = "subscript out of bounds"
	notList          = "not a list"
)

// resolveByText returns what ResolvePositions is to return, and its problem, for a subscript that must not be circular.
func resolveByText(n int, names []string, s impl.Vector) ([]int, string) {
	switch {
	case faultOf(s) != "":
		return nil, invalidVector
	case n < 0 || n > 40 || len(names) != 0 && len(names) != n:
		return nil, invalidNames
	}
	switch s.Kind {
	case impl.KindNull:
		return nil, ""
	case impl.KindLogical:
		return truePositionsByText(n, s.Items), ""
	case impl.KindNumber:
		return countedPositionsByText(n, s.Items)
	case impl.KindText:
		return namedPositionsByText(n, names, s.Items)
	}
	return nil, invalidSubscript
}

func truePositionsByText(n int, items []impl.Item) []int {
	var positions []int
	for i := 0; len(items) > 0 && (i < n || i < len(items)); i++ {
		if x := items[i%len(items)]; x == missingItem() {
			positions = append(positions, 0)
		} else if x.Num == 1 {
			positions = append(positions, i+1)
		}
	}
	return positions
}

func countedPositionsByText(n int, items []impl.Item) ([]int, string) {
	var positions []int
	excluded := map[int]bool{}
	for _, x := range items {
		switch {
		case x == missingItem():
			positions = append(positions, 0)
		case x.Den != 1:
			return nil, invalidSubscript
		case x.Num > 40 || x.Num < -40:
			return nil, outOfBounds
		case x.Num > 0:
			positions = append(positions, x.Num)
		case x.Num < 0:
			excluded[-x.Num] = true
		}
	}
	if len(excluded) == 0 {
		return positions, ""
	}
	if len(positions) > 0 {
		return nil, invalidSubscript
	}
	for position := 1; position <= n; position++ {
		if !excluded[position] {
			positions = append(positions, position)
		}
	}
	return positions, ""
}

func namedPositionsByText(n int, names []string, items []impl.Item) ([]int, string) {
	places := map[string]int{}
	for i, name := range slices.Backward(names) {
		places[name] = i + 1
	}
	var positions []int
	next := n + 1
	for _, x := range items {
		switch {
		case x == missingItem():
			positions = append(positions, 0)
			continue
		case x.Text == "":
			return nil, invalidSubscript
		case places[x.Text] == 0:
			places[x.Text] = next
			next++
		}
		positions = append(positions, places[x.Text])
	}
	return positions, ""
}

// problemOfSelectionByText returns the problem that SubsetOf and ElementOf have before there are positions.
func problemOfSelectionByText(v impl.Vector) string {
	switch {
	case faultOf(v) != "":
		return invalidVector
	case v.Kind == impl.KindFunction:
		return notElements
	}
	return ""
}

func subsetByText(v impl.Vector, s impl.Vector) (impl.Vector, string) {
	if problem := problemOfSelectionByText(v); problem != "" {
		return impl.Vector{}, problem
	}
	positions, problem := resolveByText(lengthByText(v), v.Names, s)
	if problem != "" || v.Kind == impl.KindNull {
		return impl.Vector{}, problem
	}
	w := impl.Vector{Kind: v.Kind}
	if len(v.Levels) > 0 {
		w.Class, w.Levels = v.Class, v.Levels
	}
	for _, position := range positions {
		item, part, name := missingItem(), impl.Vector{}, "<NA>"
		if position >= 1 && position <= lengthByText(v) {
			if v.Kind == impl.KindList {
				part = v.Parts[position-1]
			} else {
				item = v.Items[position-1]
			}
			if len(v.Names) > 0 {
				name = v.Names[position-1]
			}
		}
		if v.Kind == impl.KindList {
			w.Parts = append(w.Parts, part)
		} else {
			w.Items = append(w.Items, item)
		}
		if len(v.Names) > 0 {
			w.Names = append(w.Names, name)
		}
	}
	if longest(w.Names) == 0 {
		w.Names = nil
	}
	if faultOf(w) != "" {
		return impl.Vector{}, tooLarge
	}
	return w, ""
}

func elementByText(v impl.Vector, s impl.Vector) (impl.Vector, string) {
	if problem := problemOfSelectionByText(v); problem != "" {
		return impl.Vector{}, problem
	}
	positions, problem := resolveByText(lengthByText(v), v.Names, s)
	if problem != "" {
		return impl.Vector{}, problem
	}
	if lengthByText(s) != 1 || len(positions) != 1 || positions[0] == 0 || positions[0] > lengthByText(v) {
		return impl.Vector{}, outOfBounds
	}
	if v.Kind == impl.KindList {
		return v.Parts[positions[0]-1], ""
	}
	return withoutNames(pickedByText(v, positions)), ""
}

func fieldByText(v impl.Vector, name string) (impl.Vector, string) {
	switch {
	case faultOf(v) != "":
		return impl.Vector{}, invalidVector
	case v.Kind == impl.KindNull:
		return impl.Vector{}, ""
	case v.Kind != impl.KindList:
		return impl.Vector{}, notList
	}
	var longer []impl.Vector
	for i, own := range v.Names {
		if name != "" && own == name {
			return v.Parts[i], ""
		}
		if name != "" && len(own) > len(name) && own[:len(name)] == name {
			longer = append(longer, v.Parts[i])
		}
	}
	if len(longer) == 1 {
		return longer[0], ""
	}
	return impl.Vector{}, ""
}

// checkPositions checks that there are these positions or, if there is a problem, this one and none.
func checkPositions(t *testing.T, name string, list []int, problem string, want []int, wantedProblem string) {
	t.Helper()
	if problem != wantedProblem || !slices.Equal(list, want) {
		t.Errorf("%s: %v and %q, not %v and %q", name, list, problem, want, wantedProblem)
	}
}

func checkResolved(t *testing.T, n int, names []string, s impl.Vector) {
	t.Helper()
	list, problem := impl.ResolvePositions(n, names, s)
	want, wantedProblem := resolveByText(n, names, s)
	checkPositions(t, fmt.Sprintf("%d elements with names %q: %s", n, names, fieldsOf(s)), list, problem, want, wantedProblem)
}

// checkOutcome checks that there is this result or, if there is a problem, this one and none.
func checkOutcome(t *testing.T, name string, w impl.Vector, problem string, want impl.Vector, wantedProblem string) {
	t.Helper()
	if wantedProblem != "" {
		checkProblem(t, name, w, problem, wantedProblem)
		return
	}
	checkResult(t, name, w, problem, want)
	if !impl.IsVector(w) {
		t.Errorf("%s: no vector", name)
	}
}

// checkSelected has the three functions that take a subscript.
func checkSelected(t *testing.T, v impl.Vector, s impl.Vector) {
	t.Helper()
	name := fmt.Sprintf("%s of %s", fieldsOf(s), fieldsOf(v))
	checkResolved(t, lengthByText(v), v.Names, s)
	w, problem := impl.SubsetOf(v, s)
	want, wantedProblem := subsetByText(v, s)
	checkOutcome(t, "subset "+name, w, problem, want, wantedProblem)
	w, problem = impl.ElementOf(v, s)
	want, wantedProblem = elementByText(v, s)
	checkOutcome(t, "element "+name, w, problem, want, wantedProblem)
}

func checkField(t *testing.T, v impl.Vector, field string) {
	t.Helper()
	w, problem := impl.FieldOf(v, field)
	want, wantedProblem := fieldByText(v, field)
	checkOutcome(t, fmt.Sprintf("field %q of %s", field, fieldsOf(v)), w, problem, want, wantedProblem)
}

func TestResolvePositionsInWords(t *testing.T) {
	aba := []string{"a", "b", "a"}
	for _, c := range []struct {
		n     int
		names []string
		s     impl.Vector
		want  []int
	}{
		{3, nil, impl.Vector{}, nil},
		{0, nil, impl.Vector{}, nil},
		{3, aba, impl.Vector{}, nil},

		{3, nil, numbers(), nil},
		{3, nil, numbers(2), []int{2}},
		{3, nil, numbers(3, 1, 3), []int{3, 1, 3}},
		{3, nil, numbers(4, 40), []int{4, 40}},
		{0, nil, numbers(1, 2), []int{1, 2}},
		{3, nil, numbers(0), nil},
		{3, nil, numbers(0, 0, 0), nil},
		{3, nil, numbers(0, 2, 0, 1), []int{2, 1}},
		{3, nil, missing(impl.KindNumber, 2), []int{0, 0}},
		{3, nil, gaps(2, 1), []int{2, 0, 1, 0}},
		{3, nil, gaps(0, 7), []int{0, 7, 0}},
		{3, nil, factor(3, 1, 0, 2), []int{3, 1, 0, 2}},
		{1, nil, factor(3), []int{3}},
		{3, aba, levelled(numbers(2), "b", "a"), []int{2}},
		{3, aba, classed(named(numbers(2), "b"), "c"), []int{2}},

		{3, nil, numbers(-1), []int{2, 3}},
		{3, nil, numbers(-2), []int{1, 3}},
		{3, nil, numbers(-3), []int{1, 2}},
		{3, nil, numbers(-4), []int{1, 2, 3}},
		{3, nil, numbers(-40), []int{1, 2, 3}},
		{3, nil, numbers(-2, -2), []int{1, 3}},
		{3, nil, numbers(-3, -1), []int{2}},
		{3, nil, numbers(-3, -40, -1, -4), []int{2}},
		{3, nil, numbers(-3, -1, -2), nil},
		{3, nil, numbers(0, -2), []int{1, 3}},
		{3, nil, numbers(-2, 0, 0), []int{1, 3}},
		{1, nil, numbers(-1), nil},
		{0, nil, numbers(-1), nil},
		{40, nil, numbers(-40), numbered(1, 39)},
		{40, nil, numbers(-1), numbered(2, 40)},

		{3, nil, logicals(), nil},
		{0, nil, logicals(), nil},
		{3, nil, logicals(1), []int{1, 2, 3}},
		{3, nil, logicals(0), nil},
		{3, nil, logicals(2), []int{0, 0, 0}},
		{3, nil, logicals(1, 0), []int{1, 3}},
		{3, nil, logicals(0, 1), []int{2}},
		{5, nil, logicals(0, 2, 1), []int{0, 3, 0}},
		{3, nil, logicals(0, 1, 1), []int{2, 3}},
		{3, nil, logicals(1, 2, 0), []int{1, 0}},
		{3, nil, logicals(0, 0, 0, 1, 2, 1), []int{4, 0, 6}},
		{1, nil, logicals(0, 1), []int{2}},
		{0, nil, logicals(1), []int{1}},
		{0, nil, logicals(0, 2, 1), []int{0, 3}},
		{3, aba, classed(named(logicals(0, 0, 1), "a", "b", "c"), "d"), []int{3}},

		{3, aba, texts(), nil},
		{3, aba, texts("b"), []int{2}},
		{3, aba, texts("a"), []int{1}},
		{3, aba, texts("a", "b", "a"), []int{1, 2, 1}},
		{3, aba, texts("z"), []int{4}},
		{3, aba, texts("z", "y"), []int{4, 5}},
		{3, aba, texts("z", "z"), []int{4, 4}},
		{3, aba, texts("z", "y", "z", "x", "y"), []int{4, 5, 4, 6, 5}},
		{3, aba, texts("z", "a", "y", "b", "z"), []int{4, 1, 5, 2, 4}},
		{3, aba, holed("-"), []int{0}},
		{3, aba, holed("z", "-", "a", "-", "y"), []int{4, 0, 1, 0, 5}},
		{3, nil, texts("a"), []int{4}},
		{3, nil, texts("a", "b", "a"), []int{4, 5, 4}},
		{0, nil, texts("a", "b", "a"), []int{1, 2, 1}},
		{3, []string{"", "b", ""}, texts("b", "a"), []int{2, 4}},
		{3, []string{"", "", "b"}, texts("b"), []int{3}},
		{2, []string{"", ""}, texts("a"), []int{3}},
		{2, []string{"<NA>", "NA"}, texts("NA", "<NA>", "TRUE"), []int{2, 1, 3}},
		{2, []string{"NA", "<NA>"}, holed("-", "<NA>"), []int{0, 2}},
		{3, []string{"1", "2", "3"}, texts("3", "4", "2"), []int{3, 4, 2}},
		{3, nil, texts("2"), []int{4}},
		{2, []string{"al", "alpha"}, texts("alpha", "alp", "al", "a"), []int{2, 3, 1, 4}},
		{2, []string{"a", "A"}, texts("A", " a", "a"), []int{2, 3, 1}},
		{1, []string{"a\x00\xff"}, texts("a\x00\xff", "a", "a\x00"), []int{1, 2, 3}},
		{1, []string{"a"}, classed(named(texts("z", "a"), "a", "z"), "c"), []int{2, 1}},
		{1, []string{bytesOf(61)}, texts(bytesOf(60)), []int{2}},
		{40, nil, texts(distinct(40, 2)...), numbered(41, 80)},
		{40, distinct(40, 2), texts(distinct(40, 2)...), numbered(1, 40)},
	} {
		list, problem := impl.ResolvePositions(c.n, c.names, c.s)
		checkPositions(t, fmt.Sprintf("%d elements with names %q: %s", c.n, c.names, fieldsOf(c.s)), list, problem, c.want, "")
		checkResolved(t, c.n, c.names, c.s)
	}
}

// numbered returns the integers from one to another.
func numbered(from int, to int) []int {
	var list []int
	for n := from; n <= to; n++ {
		list = append(list, n)
	}
	return list
}

// A badSubscript is a subscript with a problem, whatever it selects from.
type badSubscript struct {
	s    impl.Vector
	want string
}

func badSubscripts() []badSubscript {
	return []badSubscript{
		{listOf(), invalidSubscript},
		{listOf(numbers(1)), invalidSubscript},
		{listOf(impl.Vector{}), invalidSubscript},
		{named(classed(listOf(texts("a")), "data.frame"), "x"), invalidSubscript},
		{function(0, 0), invalidSubscript},
		{classed(function(1, 2), "c"), invalidSubscript},

		{fractions(1, 2), invalidSubscript},
		{fractions(-1, 2), invalidSubscript},
		{fractions(81, 2), invalidSubscript},
		{fractions(-largest, 2), invalidSubscript},
		{fractions(1, 1, 3, 2), invalidSubscript},
		{fractions(0, 0, 0, 1, 1, largest), invalidSubscript},
		{numbers(41), outOfBounds},
		{numbers(-41), outOfBounds},
		{numbers(largest), outOfBounds},
		{numbers(-largest), outOfBounds},
		{numbers(1, 2, 41), outOfBounds},
		{numbers(-1, 0, -41), outOfBounds},
		{gaps(0, 40, 41), outOfBounds},

		// Which of them comes first.
		{fractions(1, 2, 41, 1), invalidSubscript},
		{fractions(41, 1, 1, 2), outOfBounds},
		{fractions(1, 1, 0, 0, 3, 2, 0, 1, -41, 1), invalidSubscript},
		{fractions(1, 1, 0, 0, -41, 1, 0, 1, 3, 2), outOfBounds},
		{fractions(83, 2, 41, 1), invalidSubscript},
		{fractions(41, 1, 83, 2), outOfBounds},

		{numbers(1, -1), invalidSubscript},
		{numbers(-1, 1), invalidSubscript},
		{numbers(-1, 0, 40), invalidSubscript},
		{numbers(0, -40, -1, 40), invalidSubscript},
		{fractions(-1, 1, 0, 0), invalidSubscript},
		{fractions(0, 0, -1, 1), invalidSubscript},
		{fractions(0, 1, 0, 0, 0, 1, -1, 1, -2, 1), invalidSubscript},

		// Elements that are wrong together are looked at after those that are wrong alone.
		{numbers(1, -1, 41), outOfBounds},
		{numbers(-1, 1, -41), outOfBounds},
		{numbers(41, 1, -1), outOfBounds},
		{fractions(-1, 1, 0, 0, 41, 1), outOfBounds},
		{fractions(1, 1, -1, 1, 1, 2, 41, 1), invalidSubscript},

		{texts(""), invalidSubscript},
		{texts("a", ""), invalidSubscript},
		{texts("", "a"), invalidSubscript},
		{holed("-", "z", ""), invalidSubscript},
		{texts("", ""), invalidSubscript},
		{texts(append(distinct(39, 2), "")...), invalidSubscript},

		{numbers(1000000000), invalidVector},
		{fractions(2, 4), invalidVector},
		{vectorOf(impl.KindLogical, whole(2)), invalidVector},
		{texts(bytesOf(61)), invalidVector},
		{named(texts("a"), ""), invalidVector},
		{classed(impl.Vector{}, "a"), invalidVector},
		{factor(4), invalidVector},
		{numbersUpTo(41), invalidVector},
		{numbers(slices.Repeat([]int{0}, 41)...), invalidVector},
		{logicals(slices.Repeat([]int{0}, 41)...), invalidVector},
		{texts(distinct(41, 2)...), invalidVector},
		{texts(append(distinct(40, 2), "")...), invalidVector},
		{listOf(numbers(1000000000)), invalidVector},
		{function(-1000, 0), invalidVector},
		{impl.Vector{Kind: 6}, invalidVector},
	}
}

// namesOf returns names for n elements, none of which occurs twice.
func namesOf(n int) []string { return distinct(n, 3) }

// TestProblemsOfResolvePositions has each problem of a subscript alone and together with n and names that do not go together.
func TestProblemsOfResolvePositions(t *testing.T) {
	for _, c := range badSubscripts() {
		for _, n := range []int{0, 1, 2, 3, 39, 40} {
			for _, names := range [][]string{nil, {}, namesOf(n), make([]string, n)} {
				list, problem := impl.ResolvePositions(n, names, c.s)
				checkPositions(t, fmt.Sprintf("%d elements: %s", n, fieldsOf(c.s)), list, problem, nil, c.want)
				checkResolved(t, n, names, c.s)
			}
		}
		want := invalidNames
		if c.want == invalidVector {
			want = invalidVector
		}
		for _, n := range []int{-1, 41, 42, 1000, math.MaxInt, math.MinInt} {
			list, problem := impl.ResolvePositions(n, nil, c.s)
			checkPositions(t, fmt.Sprintf("%d elements: %s", n, fieldsOf(c.s)), list, problem, nil, want)
		}
		for _, n := range []int{0, 1, 2, 40} {
			list, problem := impl.ResolvePositions(n, namesOf(n+1), c.s)
			checkPositions(t, fmt.Sprintf("%d elements and one name more: %s", n, fieldsOf(c.s)), list, problem, nil, want)
		}
		list, problem := impl.ResolvePositions(41, namesOf(41), c.s)
		checkPositions(t, "41 elements: "+fieldsOf(c.s), list, problem, nil, want)
	}
}

// TestNumbersOfElementsAndNames has all numbers of elements and of names around the valid ones.
func TestNumbersOfElementsAndNames(t *testing.T) {
	subscripts := []impl.Vector{{}, numbers(), numbers(1), numbers(-1), logicals(), logicals(1), texts(), texts("000"), texts("z"), listOf(), fractions(1, 2), numbers(41)}
	for n := -3; n <= 44; n++ {
		for count := range 45 {
			for _, s := range subscripts {
				checkResolved(t, n, namesOf(count), s)
				list, problem := impl.ResolvePositions(n, namesOf(count), s)
				if fits := n >= 0 && n <= 40 && (count == 0 || count == n); fits != (problem != invalidNames) {
					t.Errorf("%d elements and %d names: %v and %q", n, count, list, problem)
				}
			}
		}
	}
	for _, n := range []int{100, -100, 1 << 32, math.MaxInt, math.MinInt} {
		for _, names := range [][]string{nil, {"a"}, namesOf(40), namesOf(100)} {
			for _, s := range subscripts {
				list, problem := impl.ResolvePositions(n, names, s)
				checkPositions(t, fmt.Sprintf("%d elements and %d names", n, len(names)), list, problem, nil, invalidNames)
			}
		}
	}
}

// eachList calls visit with every list of at most length elements of pool.
func eachList[T any](pool []T, length int, visit func(list []T)) {
	var extend func(list []T)
	extend = func(list []T) {
		visit(list)
		if len(list) < length {
			for _, x := range pool {
				extend(append(slices.Clone(list), x))
			}
		}
	}
	extend(nil)
}

func TestEachNumberSubscript(t *testing.T) {
	pool := []impl.Item{whole(0), whole(1), whole(2), whole(-1), whole(-3), whole(40), whole(-40), whole(41), whole(-41), ratio(1, 2), ratio(-81, 2), missingItem()}
	eachList(pool, 4, func(list []impl.Item) {
		checkResolved(t, 3, nil, vectorOf(impl.KindNumber, list...))
	})
	eachList(pool, 2, func(list []impl.Item) {
		for n := range 41 {
			checkResolved(t, n, namesOf(n), vectorOf(impl.KindNumber, list...))
		}
		checkSelected(t, named(numbers(7, 8, 9), "a", "", "a"), vectorOf(impl.KindNumber, list...))
		checkSelected(t, listOf(texts("x")), vectorOf(impl.KindNumber, list...))
	})
}

// TestEachInteger has each number of the range alone, and some on both sides of it, also twice and beside zeros.
func TestEachInteger(t *testing.T) {
	for x := -50; x <= 50; x++ {
		for _, n := range []int{0, 1, 2, 20, 39, 40} {
			for _, s := range []impl.Vector{numbers(x), numbers(x, x), numbers(0, x, 0), gaps(x), numbers(x, -x), numbers(x, x+1)} {
				checkResolved(t, n, nil, s)
			}
			checkResolved(t, n, nil, fractions(2*x+1, 2))
		}
		for _, y := range []int{1, 5, -1, -5, 40, -40} {
			checkResolved(t, 10, nil, numbers(x, y))
			checkResolved(t, 10, nil, numbers(y, x))
		}
	}
}

func TestEachLogicalSubscript(t *testing.T) {
	eachList([]int{0, 1, 2}, 5, func(list []int) {
		for n := range 8 {
			checkResolved(t, n, nil, logicals(list...))
		}
		checkSelected(t, named(numbers(7, 8, 9), "a", "", "a"), logicals(list...))
		checkSelected(t, listOf(texts("x")), logicals(list...))
	})
	for n := range 41 {
		for length := range 41 {
			var list []int
			for i := range length {
				list = append(list, i*i%3)
			}
			checkResolved(t, n, nil, logicals(list...))
			checkResolved(t, n, namesOf(n), missing(impl.KindLogical, length))
			got, problem := impl.ResolvePositions(n, nil, logicals(slices.Repeat([]int{1}, length)...))
			want := numbered(1, max(n, length))
			if length == 0 {
				want = nil
			}
			checkPositions(t, fmt.Sprintf("%d elements, %d true values", n, length), got, problem, want, "")
		}
	}
}

func TestEachTextSubscript(t *testing.T) {
	pool := []string{"a", "b", "z", "y", "<NA>", "", "-"}
	for _, names := range [][]string{nil, {"a", "b", "a"}, {"", "b", ""}, {"<NA>", "", "a"}, {"", "", ""}, {"z", "a", "z"}, {"ab", "aa", "a"}} {
		eachList(pool, 4, func(list []string) {
			checkResolved(t, 3, names, holed(list...))
		})
		eachList(pool, 2, func(list []string) {
			v := numbers(7, 8, 9)
			if longest(names) > 0 {
				v = named(v, names...)
			}
			checkSelected(t, v, holed(list...))
		})
	}
	for n := range 41 {
		checkResolved(t, n, nil, texts(distinct(40, 3)...))
		checkResolved(t, n, namesOf(n), texts(distinct(40, 3)...))
		backwards := distinct(40, 3)
		slices.Reverse(backwards)
		checkResolved(t, n, namesOf(n), texts(backwards...))
	}
}

func TestSubsetOfInWords(t *testing.T) {
	abc := named(numbers(7, 8, 9), "a", "b", "c")
	list := named(listOf(numbers(1), texts("x", "y"), impl.Vector{}), "p", "", "q")
	for _, c := range []struct {
		v    impl.Vector
		s    impl.Vector
		want impl.Vector
	}{
		{abc, numbers(2), named(numbers(8), "b")},
		{abc, numbers(3, 1, 3), named(numbers(9, 7, 9), "c", "a", "c")},
		{abc, numbers(-2), named(numbers(7, 9), "a", "c")},
		{abc, logicals(0, 1, 1), named(numbers(8, 9), "b", "c")},
		{abc, logicals(1, 0), named(numbers(7, 9), "a", "c")},
		{abc, texts("c", "a"), named(numbers(9, 7), "c", "a")},
		{abc, texts("z"), named(fractions(0, 0), "<NA>")},
		{abc, texts("b", "z", "y", "z"), named(fractions(8, 1, 0, 0, 0, 0, 0, 0), "b", "<NA>", "<NA>", "<NA>")},
		{abc, holed("-", "b"), named(fractions(0, 0, 8, 1), "<NA>", "b")},
		{abc, numbers(4, 1, 40), named(fractions(0, 0, 7, 1, 0, 0), "<NA>", "a", "<NA>")},
		{abc, gaps(1), named(fractions(7, 1, 0, 0), "a", "<NA>")},
		{abc, missing(impl.KindNumber, 1), named(fractions(0, 0), "<NA>")},
		{abc, missing(impl.KindLogical, 1), named(fractions(0, 0, 0, 0, 0, 0), "<NA>", "<NA>", "<NA>")},
		{abc, logicals(0, 0, 0, 1), named(fractions(0, 0), "<NA>")},
		{abc, logicals(0, 1, 2, 0, 1), named(fractions(8, 1, 0, 0, 0, 0), "b", "<NA>", "<NA>")},
		{abc, impl.Vector{}, numbers()},
		{abc, numbers(), numbers()},
		{abc, numbers(0), numbers()},
		{abc, numbers(-1, -2, -3), numbers()},
		{abc, logicals(), numbers()},
		{abc, logicals(0), numbers()},
		{abc, texts(), numbers()},
		{abc, logicals(1), abc},
		{abc, numbers(-4), abc},
		{abc, factor(3, 1), named(numbers(9, 7), "c", "a")},
		{abc, named(numbers(2), "z"), named(numbers(8), "b")},

		// Vectors without names stay so.
		{numbers(7, 8, 9), numbers(2, 5), fractions(8, 1, 0, 0)},
		{numbers(7, 8, 9), texts("a", "b"), missing(impl.KindNumber, 2)},
		{numbers(7, 8, 9), named(numbers(2), "z"), numbers(8)},
		{logicals(1, 0), numbers(2, 3, 1), logicals(0, 2, 1)},
		{texts("x", ""), numbers(2, 3, 1), holed("", "-", "x")},
		{holed("-", "x"), logicals(1), holed("-", "x")},
		{numbers(), numbers(1), missing(impl.KindNumber, 1)},
		{texts(), logicals(1, 0, 1), missing(impl.KindText, 2)},
		{logicals(), texts("a"), missing(impl.KindLogical, 1)},
		{logicals(), numbers(-1), logicals()},

		// Names.
		{named(numbers(1, 2, 3), "", "b", ""), numbers(1, 3), numbers(1, 3)},
		{named(numbers(1, 2, 3), "", "b", ""), numbers(3, 2), named(numbers(3, 2), "", "b")},
		{named(numbers(1, 2, 3), "", "b", ""), numbers(1, 4), named(fractions(1, 1, 0, 0), "", "<NA>")},
		{named(numbers(1, 2, 3), "", "b", ""), missing(impl.KindNumber, 1), named(fractions(0, 0), "<NA>")},
		{named(numbers(1, 2), "<NA>", "NA"), texts("NA", "<NA>", "z"), named(fractions(2, 1, 1, 1, 0, 0), "NA", "<NA>", "<NA>")},
		{named(numbers(1, 2, 3), "a", "b", "a"), texts("a", "a", "b"), named(numbers(1, 1, 2), "a", "a", "b")},
		{named(numbers(1, 2, 3), "a", "b", "a"), numbers(-1), named(numbers(2, 3), "b", "a")},
		{named(numbers(1), bytesOf(60)), texts(bytesOf(60), bytesOf(59)), named(fractions(1, 1, 0, 0), bytesOf(60), "<NA>")},

		// Lists.
		{list, numbers(2), listOf(texts("x", "y"))},
		{list, numbers(1, 4), named(listOf(numbers(1), impl.Vector{}), "p", "<NA>")},
		{list, texts("q", "p", "z"), named(listOf(impl.Vector{}, numbers(1), impl.Vector{}), "q", "p", "<NA>")},
		{list, numbers(-2), named(listOf(numbers(1), impl.Vector{}), "p", "q")},
		{list, missing(impl.KindText, 1), named(listOf(impl.Vector{}), "<NA>")},
		{list, numbers(0), listOf()},
		{listOf(function(1, 2)), numbers(1, 2), listOf(function(1, 2), impl.Vector{})},
		{listOf(), numbers(2), listOf(impl.Vector{})},
		{listOf(), texts("a", "b"), listOf(impl.Vector{}, impl.Vector{})},
		{listOf(classed(named(listOf(factor(1)), "in"), "c")), logicals(1), listOf(classed(named(listOf(factor(1)), "in"), "c"))},

		// Class and Levels.
		{classed(numbers(1, 2), "c"), numbers(2), numbers(2)},
		{classed(numbers(1, 2), "c"), logicals(1), numbers(1, 2)},
		{classed(texts("x"), "c", "d"), numbers(), texts()},
		{classed(list, "data.frame"), numbers(1), named(listOf(numbers(1)), "p")},
		{factor(3, 1, 0), numbers(2, 3, 4), factor(1, 0, 0)},
		{factor(3, 1, 0), numbers(), factor()},
		{factor(), numbers(1), factor(0)},
		{levelled(numbers(2, 1), "u", "v"), numbers(-1), levelled(numbers(1), "u", "v")},
		{named(factor(3, 1), "a", "b"), texts("b", "z"), named(factor(1, 0), "b", "<NA>")},
		{named(factor(3, 1), "high", "low"), factor(2, 1), named(factor(1, 3), "low", "high")},

		// NULL.
		{impl.Vector{}, impl.Vector{}, impl.Vector{}},
		{impl.Vector{}, numbers(3), impl.Vector{}},
		{impl.Vector{}, numbers(-1), impl.Vector{}},
		{impl.Vector{}, logicals(1, 2), impl.Vector{}},
		{impl.Vector{}, texts("a", "b"), impl.Vector{}},
		{impl.Vector{}, missing(impl.KindText, 40), impl.Vector{}},
	} {
		v, problem := impl.SubsetOf(c.v, c.s)
		checkResult(t, fmt.Sprintf("subset %s of %s", fieldsOf(c.s), fieldsOf(c.v)), v, problem, c.want)
		checkSelected(t, c.v, c.s)
	}
}

func TestElementOfInWords(t *testing.T) {
	abc := named(numbers(7, 8, 9), "a", "b", "c")
	part := classed(named(texts("x", "y"), "in", "side"), "c")
	list := named(listOf(numbers(1), part, impl.Vector{}, function(1, 2)), "p", "", "q", "r")
	for _, c := range []struct {
		v    impl.Vector
		s    impl.Vector
		want impl.Vector
	}{
		{abc, numbers(1), numbers(7)},
		{abc, numbers(3), numbers(9)},
		{abc, texts("b"), numbers(8)},
		{abc, factor(2), numbers(8)},
		{abc, named(classed(texts("c"), "d"), "z"), numbers(9)},
		{named(numbers(7, 8), "a", "b"), numbers(-1), numbers(8)},
		{named(numbers(7, 8), "a", "b"), numbers(-2), numbers(7)},
		{numbers(7), numbers(-2), numbers(7)},
		{numbers(7), logicals(1), numbers(7)},
		{named(numbers(1, 2, 3), "a", "b", "a"), texts("a"), numbers(1)},
		{named(numbers(1, 2), "<NA>", "NA"), texts("<NA>"), numbers(1)},
		{logicals(1, 0, 2), numbers(3), logicals(2)},
		{logicals(1, 0, 2), numbers(2), logicals(0)},
		{texts("x", "y"), numbers(2), texts("y")},
		{fractions(-7, 3, 0, 0), numbers(1), fractions(-7, 3)},
		{classed(abc, "d"), numbers(2), numbers(8)},
		{named(factor(3, 0, 1), "a", "b", "c"), numbers(1), factor(3)},
		{named(factor(3, 0, 1), "a", "b", "c"), texts("b"), factor(0)},
		{levelled(numbers(2, 1), "u", "v"), numbers(2), levelled(numbers(1), "u", "v")},
		{list, numbers(1), numbers(1)},
		{list, numbers(2), part},
		{list, numbers(3), impl.Vector{}},
		{list, numbers(4), function(1, 2)},
		{list, texts("p"), numbers(1)},
		{list, texts("q"), impl.Vector{}},
		{classed(list, "data.frame"), texts("r"), function(1, 2)},
		{listOf(part), logicals(1), part},
		{listOf(classed(listOf(factor(1, 2)), "in")), numbers(1), classed(listOf(factor(1, 2)), "in")},
	} {
		v, problem := impl.ElementOf(c.v, c.s)
		checkResult(t, fmt.Sprintf("element %s of %s", fieldsOf(c.s), fieldsOf(c.v)), v, problem, c.want)
		checkSelected(t, c.v, c.s)
	}
}

// TestElementOutOfBounds has subscripts that select, but not exactly one element.
func TestElementOutOfBounds(t *testing.T) {
	abc := named(numbers(7, 8, 9), "a", "b", "c")
	one, two := named(numbers(7), "a"), named(numbers(7, 8), "a", "b")
	for _, c := range []struct {
		v impl.Vector
		s impl.Vector
	}{
		{abc, impl.Vector{}},
		{abc, numbers()},
		{abc, logicals()},
		{abc, texts()},
		{abc, numbers(0)},
		{abc, numbers(4)},
		{abc, numbers(40)},
		{abc, missing(impl.KindNumber, 1)},
		{abc, missing(impl.KindLogical, 1)},
		{abc, missing(impl.KindText, 1)},
		{abc, factor(0)},
		{abc, texts("z")},
		{abc, texts("<NA>")},
		{abc, numbers(1, 2)},
		{abc, numbers(2, 2)},
		{abc, numbers(0, 2)},
		{abc, numbers(2, 0)},
		{abc, numbers(-1, -2)},
		{abc, numbers(-1)},
		{abc, numbers(-4)},
		{abc, logicals(1)},
		{abc, logicals(0)},
		{abc, logicals(0, 1)},
		{abc, logicals(0, 0, 1)},
		{abc, texts("a", "b")},
		{abc, texts("a", "a")},
		{abc, texts("z", "a")},
		{two, logicals(1, 0)},
		{two, logicals(1)},
		{two, numbers(-3)},
		{two, numbers(-1, 0)},
		{two, numbers(-1, -1)},
		{two, numbers(3)},
		{one, numbers(-1)},
		{one, logicals(0)},
		{one, logicals(2)},
		{one, logicals(1, 0)},
		{one, logicals(0, 1)},
		{one, numbers(2)},
		{one, texts("b")},
		{impl.Vector{}, impl.Vector{}},
		{impl.Vector{}, numbers(1)},
		{impl.Vector{}, numbers(0)},
		{impl.Vector{}, numbers(-1)},
		{impl.Vector{}, logicals(1)},
		{impl.Vector{}, texts("a")},
		{numbers(), numbers(1)},
		{texts(), logicals(1)},
		{listOf(), numbers(1)},
		{listOf(), texts("a")},
		{listOf(numbers(1)), numbers(2)},
		{listOf(numbers(1)), texts("a")},
		{named(listOf(numbers(1), numbers(2)), "alpha", "beta"), texts("al")},
		{listOf(numbers(1), numbers(2)), numbers(1, 1)},
		{listOf(numbers(1), listOf(numbers(2))), numbers(2, 1)},
		{factor(1, 2), numbers(3)},
	} {
		v, problem := impl.ElementOf(c.v, c.s)
		checkProblem(t, fmt.Sprintf("element %s of %s", fieldsOf(c.s), fieldsOf(c.v)), v, problem, outOfBounds)
		checkSelected(t, c.v, c.s)
	}
}

func TestFieldOfInWords(t *testing.T) {
	part := classed(named(texts("x"), "in"), "c")
	list := func(names ...string) impl.Vector {
		v := listOf()
		for i := range names {
			v.Parts = append(v.Parts, numbers(i+1))
		}
		return named(v, names...)
	}
	for _, c := range []struct {
		v    impl.Vector
		name string
		want impl.Vector
	}{
		{list("alpha", "beta"), "alpha", numbers(1)},
		{list("alpha", "beta"), "beta", numbers(2)},
		{list("alpha", "beta"), "al", numbers(1)},
		{list("alpha", "beta"), "b", numbers(2)},
		{list("alpha", "beta"), "alphabet", impl.Vector{}},
		{list("alpha", "beta"), "lpha", impl.Vector{}},
		{list("alpha", "beta"), "Al", impl.Vector{}},
		{list("alpha", "beta"), "c", impl.Vector{}},
		{list("alpha", "beta"), "", impl.Vector{}},
		{list("alpha", "beta"), "<NA>", impl.Vector{}},
		{list("alpha", "alto"), "al", impl.Vector{}},
		{list("alpha", "alto"), "alp", numbers(1)},
		{list("alpha", "alto"), "alt", numbers(2)},
		{list("alpha", "alto", "al"), "al", numbers(3)},
		{list("al", "alpha", "alto"), "al", numbers(1)},
		{list("alpha", "al"), "al", numbers(2)},
		{list("alpha", "al"), "a", impl.Vector{}},
		{list("alpha", "al"), "alp", numbers(1)},
		{list("a", "a"), "a", numbers(1)},
		{list("ab", "a", "a", "ab"), "a", numbers(2)},
		{list("b", "a", "b"), "b", numbers(1)},
		{list("alpha", "alpha"), "alpha", numbers(1)},
		{list("alpha", "alpha"), "al", impl.Vector{}},
		{list("alpha", "beta", "alpha"), "al", impl.Vector{}},
		{list("", "a", ""), "a", numbers(2)},
		{list("", "a", ""), "", impl.Vector{}},
		{list("", "alpha", ""), "al", numbers(2)},
		{list("a"), "", impl.Vector{}},
		{list("<NA>", "NA"), "<", numbers(1)},
		{list("<NA>", "NA"), "NA", numbers(2)},
		{list("if", "a b", "1"), "a ", numbers(2)},
		{list("\xff\x00x"), "\xff\x00", numbers(1)},
		{list("é"), "\xc3", numbers(1)},
		{list(bytesOf(60)), bytesOf(59), numbers(1)},
		{list(bytesOf(60)), bytesOf(61), impl.Vector{}},
		{list(bytesOf(60)), bytesOf(100000), impl.Vector{}},
		{list(bytesOf(60), bytesOf(59)), bytesOf(59), numbers(2)},
		{list(bytesOf(60), bytesOf(59)), bytesOf(58), impl.Vector{}},
		{listOf(numbers(1)), "a", impl.Vector{}},
		{listOf(numbers(1)), "", impl.Vector{}},
		{listOf(), "a", impl.Vector{}},
		{listOf(), "", impl.Vector{}},
		{named(listOf(impl.Vector{}, numbers(2)), "al", "alpha"), "al", impl.Vector{}},
		{named(listOf(impl.Vector{}, numbers(2)), "al", "alpha"), "alp", numbers(2)},
		{named(listOf(impl.Vector{}, numbers(2)), "alpha", "alto"), "al", impl.Vector{}},
		{classed(named(listOf(part), "part"), "data.frame"), "p", part},
		{classed(named(listOf(part, factor(3, 0)), "part", "f"), "data.frame"), "f", factor(3, 0)},
		{named(listOf(listOf(listOf(numbers(1)))), "deep"), "deep", listOf(listOf(numbers(1)))},
		{named(listOf(classed(function(1, 2), "c")), "f"), "f", classed(function(1, 2), "c")},
		{named(listOf(named(listOf(numbers(1)), "in")), "out"), "in", impl.Vector{}},
		{impl.Vector{}, "a", impl.Vector{}},
		{impl.Vector{}, "", impl.Vector{}},
		{impl.Vector{}, bytesOf(61), impl.Vector{}},
	} {
		v, problem := impl.FieldOf(c.v, c.name)
		checkResult(t, fmt.Sprintf("field %q of %s", c.name, fieldsOf(c.v)), v, problem, c.want)
		checkField(t, c.v, c.name)
	}
}

// TestEachField has all lists of up to four parts with some names.
func TestEachField(t *testing.T) {
	pool := []string{"", "a", "ab", "abc", "abd", "b"}
	eachList(pool, 4, func(names []string) {
		v := listOf()
		for i := range names {
			v.Parts = append(v.Parts, numbers(i+1))
		}
		if longest(names) > 0 {
			v.Names = names
		}
		for _, name := range append(pool, "abcd", "c", "ba", "B", "<NA>") {
			checkField(t, v, name)
		}
	})
}

// TestFieldOfOtherKinds has the problem alone and together with others, whatever the name.
func TestFieldOfOtherKinds(t *testing.T) {
	for _, name := range []string{"", "a", "z", "<NA>", bytesOf(60), bytesOf(61)} {
		for _, v := range []impl.Vector{
			logicals(), logicals(1), numbers(), named(numbers(1), "a"), texts(), named(texts("a"), "a"), factor(), named(factor(1, 2), "a", "b"),
			function(0, 0), classed(function(1, 2), "a"), classed(numbers(1), "data.frame"), missing(impl.KindText, 1),
		} {
			w, problem := impl.FieldOf(v, name)
			checkProblem(t, fmt.Sprintf("field %q of %s", name, fieldsOf(v)), w, problem, notList)
			checkField(t, v, name)
		}
		for _, s := range invalidVectors() {
			w, problem := impl.FieldOf(s.vector, name)
			checkProblem(t, fmt.Sprintf("field %q of %s", name, s.name), w, problem, invalidVector)
		}
	}
}

// TestUnknownNames has unknown names alone, twice, beside known ones, and several different ones, in each of the four functions.
func TestUnknownNames(t *testing.T) {
	for _, v := range []impl.Vector{
		named(numbers(7, 8, 9), "a", "b", "c"),
		named(logicals(1, 0, 2), "a", "b", "c"),
		named(texts("x", "y", "z"), "a", "b", "c"),
		named(factor(1, 2, 3), "a", "b", "c"),
		named(listOf(numbers(1), texts("y"), listOf()), "a", "b", "c"),
	} {
		for _, c := range []struct {
			list      []string
			positions []int
		}{
			{[]string{"z"}, []int{4}},
			{[]string{"z", "z"}, []int{4, 4}},
			{[]string{"a", "z"}, []int{1, 4}},
			{[]string{"z", "b", "z", "c"}, []int{4, 2, 4, 3}},
			{[]string{"z", "y", "x"}, []int{4, 5, 6}},
			{[]string{"x", "z", "x", "y", "a", "z"}, []int{4, 5, 4, 6, 1, 5}},
			{[]string{"A", "a ", "ab"}, []int{4, 5, 6}},
			{[]string{"<NA>", "NA", "a", "1"}, []int{4, 5, 1, 6}},
		} {
			s := texts(c.list...)
			list, problem := impl.ResolvePositions(3, v.Names, s)
			checkPositions(t, fmt.Sprintf("%q", c.list), list, problem, c.positions, "")

			w, problem := impl.SubsetOf(v, s)
			wider := v
			wider.Names = append(slices.Clone(v.Names), "<NA>")
			if v.Kind == impl.KindList {
				wider.Parts = append(slices.Clone(v.Parts), impl.Vector{})
			} else {
				wider.Items = append(slices.Clone(v.Items), missingItem())
			}
			var clamped []int
			for _, position := range c.positions {
				clamped = append(clamped, min(position, 4))
			}
			checkResult(t, fmt.Sprintf("subset %q of %s", c.list, fieldsOf(v)), w, problem, pickedByText(wider, clamped))

			w, problem = impl.ElementOf(v, s)
			checkProblem(t, fmt.Sprintf("element %q of %s", c.list, fieldsOf(v)), w, problem, outOfBounds)
			checkSelected(t, v, s)
			checkSelected(t, withoutNames(v), s)

			for _, name := range c.list {
				w, problem = impl.FieldOf(v, name)
				switch {
				case v.Kind != impl.KindList:
					checkProblem(t, fmt.Sprintf("field %q of %s", name, fieldsOf(v)), w, problem, notList)
				case !slices.Contains(v.Names, name):
					checkResult(t, fmt.Sprintf("field %q of %s", name, fieldsOf(v)), w, problem, impl.Vector{})
				}
				checkField(t, v, name)
			}
		}
	}
}

// TestProblemsOfSelections has each problem of a vector and each problem of a subscript, alone and together: that of the vector comes first.
func TestProblemsOfSelections(t *testing.T) {
	good := []impl.Vector{numbers(1), named(numbers(7, 8, 9), "a", "b", "a"), texts(), logicals(2), factor(1, 2), named(factor(1), "a"), listOf(), listOf(numbers(1), listOf()), {}, numbersUpTo(40), named(listOf(function(1, 2)), "f"), listOfCells(200)}
	bad := []struct {
		v    impl.Vector
		want string
	}{
		{numbers(1000000000), invalidVector},
		{named(numbers(1), ""), invalidVector},
		{numbersUpTo(41), invalidVector},
		{factor(4), invalidVector},
		{listOf(numbers(1000000000)), invalidVector},
		{impl.Vector{Kind: 6}, invalidVector},
		{function(-1000, 0), invalidVector},
		{named(function(1, 1), "f"), invalidVector},
		{circular(), invalidVector},
		{function(1, 1), notElements},
		{classed(function(0, 0), "c"), notElements},
	}
	var subscripts []impl.Vector
	for _, c := range badSubscripts() {
		subscripts = append(subscripts, c.s)
		for _, v := range good {
			w, problem := impl.SubsetOf(v, c.s)
			checkProblem(t, fmt.Sprintf("subset %s of %s", fieldsOf(c.s), fieldsOf(v)), w, problem, c.want)
			w, problem = impl.ElementOf(v, c.s)
			checkProblem(t, fmt.Sprintf("element %s of %s", fieldsOf(c.s), fieldsOf(v)), w, problem, c.want)
		}
	}
	subscripts = append(subscripts, impl.Vector{}, numbers(1), numbers(1, 2), numbers(0), numbers(40), numbers(-1), logicals(1), logicals(), texts("a"), texts("a", "z"), circular())
	for _, c := range bad {
		for _, s := range subscripts {
			w, problem := impl.SubsetOf(c.v, s)
			checkProblem(t, "subset of a bad vector, "+c.want, w, problem, c.want)
			w, problem = impl.ElementOf(c.v, s)
			checkProblem(t, "element of a bad vector, "+c.want, w, problem, c.want)
		}
	}
}

// TestSubscriptsOfInvalidVectors has invalid vectors on both sides, also lists that contain themselves.
func TestSubscriptsOfInvalidVectors(t *testing.T) {
	for _, bad := range invalidVectors() {
		list, problem := impl.ResolvePositions(3, nil, bad.vector)
		checkPositions(t, bad.name, list, problem, nil, invalidVector)
		list, problem = impl.ResolvePositions(-1, nil, bad.vector)
		checkPositions(t, bad.name+" and no valid length", list, problem, nil, invalidVector)
		list, problem = impl.ResolvePositions(1, []string{"a", "b"}, bad.vector)
		checkPositions(t, bad.name+" and too many names", list, problem, nil, invalidVector)
		for _, good := range []impl.Vector{{}, numbers(1), texts("a"), logicals(1), listOf(numbers(1)), numbers(1, 2)} {
			w, problem := impl.SubsetOf(bad.vector, good)
			checkProblem(t, "subset of "+bad.name, w, problem, invalidVector)
			w, problem = impl.SubsetOf(good, bad.vector)
			checkProblem(t, "subset by "+bad.name, w, problem, invalidVector)
			w, problem = impl.ElementOf(bad.vector, good)
			checkProblem(t, "element of "+bad.name, w, problem, invalidVector)
			w, problem = impl.ElementOf(good, bad.vector)
			checkProblem(t, "element by "+bad.name, w, problem, invalidVector)
		}
		w, problem := impl.SubsetOf(function(1, 1), bad.vector)
		checkProblem(t, "subset of a function by "+bad.name, w, problem, notElements)
		w, problem = impl.ElementOf(function(1, 1), bad.vector)
		checkProblem(t, "element of a function by "+bad.name, w, problem, notElements)
		w, problem = impl.SubsetOf(bad.vector, bad.vector)
		checkProblem(t, "subset of itself: "+bad.name, w, problem, invalidVector)
		w, problem = impl.ElementOf(bad.vector, bad.vector)
		checkProblem(t, "element of itself: "+bad.name, w, problem, invalidVector)
	}
}

// TestSubsetsAtTheLimits has results of MaxLength elements, and of MaxCells cells and one more, made in different ways.
func TestSubsetsAtTheLimits(t *testing.T) {
	forty := named(numbersUpTo(40), namesOf(40)...)
	for _, s := range []impl.Vector{numbersUpTo(40), logicals(1), logicals(slices.Repeat([]int{1}, 40)...), texts(namesOf(40)...)} {
		v, problem := impl.SubsetOf(forty, s)
		checkResult(t, "all of 40 elements", v, problem, forty)
		checkSelected(t, forty, s)
	}
	v, problem := impl.SubsetOf(numbers(7), numbers(slices.Repeat([]int{1}, 40)...))
	checkResult(t, "one element 40 times", v, problem, numbers(slices.Repeat([]int{7}, 40)...))
	v, problem = impl.SubsetOf(named(numbers(7), "a"), missing(impl.KindText, 40))
	checkResult(t, "40 missing subscripts", v, problem, named(missing(impl.KindNumber, 40), slices.Repeat([]string{"<NA>"}, 40)...))
	v, problem = impl.SubsetOf(named(numbers(7), "a"), texts(distinct(40, 2)...))
	checkResult(t, "40 unknown names", v, problem, named(missing(impl.KindNumber, 40), slices.Repeat([]string{"<NA>"}, 40)...))
	v, problem = impl.SubsetOf(forty, texts(distinct(40, 2)...))
	checkResult(t, "40 unknown names beside 40", v, problem, named(missing(impl.KindNumber, 40), slices.Repeat([]string{"<NA>"}, 40)...))
	v, problem = impl.SubsetOf(listOf(), missing(impl.KindNumber, 40))
	checkResult(t, "40 times NULL", v, problem, listOf(make([]impl.Vector, 40)...))
	v, problem = impl.SubsetOf(numbers(7), numbers(slices.Repeat([]int{1}, 41)...))
	checkProblem(t, "one element 41 times", v, problem, invalidVector)
	v, problem = impl.SubsetOf(listOf(), missing(impl.KindNumber, 41))
	checkProblem(t, "41 times NULL", v, problem, invalidVector)
	v, problem = impl.SubsetOf(numbers(7), logicals(slices.Repeat([]int{1}, 41)...))
	checkProblem(t, "41 true values", v, problem, invalidVector)

	for cells := 1; cells <= 41; cells++ {
		part := numbersUpTo(cells - 1)
		for count := range 41 {
			v, problem := impl.SubsetOf(listOf(part), numbers(slices.Repeat([]int{1}, count)...))
			name := fmt.Sprintf("%d times %d cells", count, cells)
			if count*cells <= 200 {
				checkResult(t, name, v, problem, listOf(slices.Repeat([]impl.Vector{part}, count)...))
			} else {
				checkProblem(t, name, v, problem, tooLarge)
			}
		}
	}
	checkCellsOfSubsets(t)
}

// checkCellsOfSubsets has a list of 198 cells with one empty part, where missing parts have one cell each.
func checkCellsOfSubsets(t *testing.T) {
	t.Helper()
	v := listOfCells(197)
	v.Parts = append(v.Parts, texts())
	v = named(v, namesOf(len(v.Parts))...)
	all := len(v.Parts)
	for _, c := range []struct {
		s    []int
		want string
	}{
		{numbered(1, all), ""},
		{append(numbered(1, all), all), ""},
		{append(numbered(1, all), all, all), ""},
		{append(numbered(1, all), all+1, 40), ""},
		{append(numbered(1, all), all, all, all), tooLarge},
		{append(numbered(1, all), 40, 39, 38), tooLarge},
		{append(numbered(1, all), 1), tooLarge},
	} {
		w, problem := impl.SubsetOf(v, numbers(c.s...))
		if problem != c.want || len(w.Parts) != len(c.s) && c.want == "" {
			t.Errorf("subset %v of 198 cells: %d parts and %q, not %q", c.s, len(w.Parts), problem, c.want)
		}
		checkSelected(t, v, numbers(c.s...))
	}
	for _, s := range []impl.Vector{logicals(1), texts(append(slices.Clone(v.Names), "z", "z")...), texts(append(slices.Clone(v.Names), "z", "z", "z")...), holed("-", v.Names[0])} {
		checkSelected(t, v, s)
	}
	// Even an element that does not exist is one of too many.
	w, problem := impl.SubsetOf(v, texts(append(slices.Clone(v.Names), "x", "y", "z")...))
	checkProblem(t, "201 cells with unknown names", w, problem, tooLarge)
	w, problem = impl.SubsetOf(v, texts(append(slices.Clone(v.Names), v.Names[0], "")...))
	checkProblem(t, "too many cells and an empty string", w, problem, invalidSubscript)
}

// TestSubsetsOfDeepLists keeps the depth of the parts: a list is never nested more deeply than before.
func TestSubsetsOfDeepLists(t *testing.T) {
	for _, inner := range []impl.Vector{numbersUpTo(2), {}, listOf(), function(1, 2)} {
		v := nested(inner, 3)
		for _, s := range []impl.Vector{numbers(1), numbers(1, 1, 2), logicals(1), numbers(-2), texts("z"), numbers()} {
			checkSelected(t, v, s)
		}
		for depth := 2; depth >= 0; depth-- {
			part, problem := impl.ElementOf(v, numbers(1))
			checkResult(t, "part of a list", part, problem, nested(inner, depth))
			v = part
		}
	}
}

// subscriptsOf returns subscripts of each kind for a vector of n elements with these names.
func subscriptsOf(n int, names []string) []impl.Vector {
	list := []impl.Vector{
		{}, numbers(), numbers(0), numbers(1), numbers(n), numbers(n + 1), numbers(-n), numbers(-1, -1), numbers(-n-1, 0), numbersUpTo(n), gaps(1, n),
		missing(impl.KindNumber, 1), missing(impl.KindText, 1), missing(impl.KindLogical, 1), numbers(1, -1), fractions(1, 2), factor(1), factor(3, 0, 2),
		logicals(), logicals(1), logicals(0), logicals(1, 0), logicals(2, 1), logicals(0, 0, 1), logicals(slices.Repeat([]int{0, 1, 2, 1}, 10)...),
		texts(), texts("a"), texts("z"), texts("z", "a", "z", "y"), texts(""), holed("-", "a"), listOf(), listOf(numbers(1)), function(1, 2), numbers(41), numbersUpTo(41),
	}
	for _, name := range names {
		list = append(list, texts(name), texts(name, "z", name))
	}
	return list
}

func TestSubscriptsOfSamples(t *testing.T) {
	for _, s := range ordinaryVectors() {
		for _, subscript := range subscriptsOf(lengthByText(s.vector), s.vector.Names) {
			checkSelected(t, s.vector, subscript)
		}
		for _, other := range ordinaryVectors() {
			checkSelected(t, s.vector, other.vector)
		}
		for _, name := range append(slices.Clone(s.vector.Names), "a", "n", "i", "", "z") {
			checkField(t, s.vector, name)
		}
	}
}

// randomSubscript returns a subscript of a random kind, most of them without a problem.
func randomSubscript(source *rand.Rand, n int, names []string) impl.Vector {
	count := source.IntN(6)
	s := impl.Vector{}
	switch source.IntN(5) {
	case 0:
		s = randomOperand(source, impl.KindLogical, source.IntN(2*n+2)%41)
	case 1:
		s = numbers()
		for range count {
			s.Items = append(s.Items, whole(min(source.IntN(n+3), 40)))
		}
	case 2:
		s = numbers()
		for range count {
			s.Items = append(s.Items, whole(-min(source.IntN(n+3), 40)))
		}
	case 3:
		s = texts()
		for range count {
			s.Items = append(s.Items, word(slices.Concat(names, []string{"z", "y", "<NA>", "a"})[source.IntN(len(names)+4)]))
		}
	default:
		return randomVector(source, source.IntN(6), 5, 2)
	}
	if source.IntN(4) == 0 && len(s.Items) > 0 {
		s.Items[source.IntN(len(s.Items))] = missingItem()
	}
	return s
}

func TestSubscriptsOfRandomVectors(t *testing.T) {
	source := rand.New(rand.NewPCG(9, 1))
	counts := map[string]int{}
	for range 30000 {
		v := randomVector(source, source.IntN(6), 8, 3)
		s := randomSubscript(source, lengthByText(v), v.Names)
		checkSelected(t, v, s)
		_, problem := impl.SubsetOf(v, s)
		counts[problem]++
		checkField(t, v, slices.Concat(v.Names, []string{"a", "x", "i", ""})[source.IntN(len(v.Names)+4)])
	}
	for range 3000 {
		length := source.IntN(41)
		v := randomOperand(source, source.IntN(3)+1, length)
		checkSelected(t, v, randomSubscript(source, length, v.Names))
	}
	for _, problem := range []string{"", notElements, invalidSubscript} {
		if counts[problem] < 500 {
			t.Errorf("too few results of a kind: %v", counts)
		}
	}
}

// TestSubscriptsSelectTheSame has one set of positions in each of the four forms: logical, numeric, negative and text.
func TestSubscriptsSelectTheSame(t *testing.T) {
	source := rand.New(rand.NewPCG(9, 2))
	for range 6000 {
		kind := source.IntN(4) + 1
		v := randomVector(source, kind, 12, 3)
		if kind != impl.KindList && source.IntN(4) == 0 {
			v = randomOperand(source, kind, 39)
		}
		n := lengthByText(v)
		v.Names = distinct(n, 4)
		chosen, others, flags, names := numbers(), numbers(), logicals(), texts()
		for i := range n {
			isChosen := source.IntN(3) > 0
			flags.Items = append(flags.Items, truth(isChosen))
			if isChosen {
				chosen.Items = append(chosen.Items, whole(i+1))
				names.Items = append(names.Items, word(v.Names[i]))
			} else {
				others.Items = append(others.Items, whole(-i-1))
			}
		}
		slices.Reverse(others.Items)
		// Without a negative number nothing would be selected: this one is beyond the length.
		if len(others.Items) == 0 {
			others = numbers(0, -n-1)
		}
		checkSameSubsets(t, v, chosen, flags, others, names)
	}
}

// checkSameSubsets checks that all the subscripts select the same positions and the same elements.
func checkSameSubsets(t *testing.T, v impl.Vector, first impl.Vector, others ...impl.Vector) {
	t.Helper()
	resultOf := arranged(t, v)
	want := resultOf(impl.SubsetOf(v, first))
	positions, problem := impl.ResolvePositions(lengthByText(v), v.Names, first)
	if problem != "" {
		t.Errorf("%s: %q", fieldsOf(first), problem)
	}
	for _, s := range others {
		name := fmt.Sprintf("%s of %s", fieldsOf(s), fieldsOf(v))
		list, problem := impl.ResolvePositions(lengthByText(v), v.Names, s)
		checkPositions(t, name, list, problem, positions, "")
		checkVector(t, name, resultOf(impl.SubsetOf(v, s)), want)
		element, problem := impl.ElementOf(v, first)
		if len(s.Items) == 1 && len(first.Items) == 1 {
			other, otherProblem := impl.ElementOf(v, s)
			checkVector(t, "element "+name, other, element)
			if problem != otherProblem {
				t.Errorf("element %s: %q, not %q", name, otherProblem, problem)
			}
		}
	}
}

// TestSubscriptsBeyondTheLength has numbers, logical values and unknown names that select the same missing elements.
func TestSubscriptsBeyondTheLength(t *testing.T) {
	for n := range 39 {
		for _, v := range []impl.Vector{numbersUpTo(n), texts(distinct(n, 2)...), listOf(make([]impl.Vector, n)...)} {
			v.Names = distinct(n, 3)
			falses := slices.Repeat([]int{0}, n)
			checkSameSubsets(t, v, numbers(n+1, n+2), logicals(append(slices.Clone(falses), 1, 1)...), texts("z", "y"))
			checkSameSubsets(t, v, numbers(n+2), logicals(append(slices.Clone(falses), 0, 1)...))
			checkSameSubsets(t, v, numbers(n+1), logicals(append(slices.Clone(falses), 1)...), texts("z"))
			checkSameSubsets(t, v, missing(impl.KindNumber, 1), missing(impl.KindText, 1), logicals(append(slices.Clone(falses), 2)...))
			checkSameSubsets(t, v, numbers(), logicals(), texts(), numbers(0, 0), impl.Vector{}, logicals(append(slices.Clone(falses), 0)...))
			if n > 0 {
				checkSameSubsets(t, v, logicals(1), numbersUpTo(n), texts(v.Names...), numbers(-n-1), numbers(0, -40))
				checkSameSubsets(t, v, logicals(0), numbers(), numbers(slices.Concat(numbered(-n, -1), []int{0, -n - 1})...))
			}
		}
	}
}

// TestSubscriptsFitTogether compares subscripts with the functions of the chapters before.
func TestSubscriptsFitTogether(t *testing.T) {
	source := rand.New(rand.NewPCG(9, 3))
	for range 4000 {
		v := crowded(source, source.IntN(3)+1, source.IntN(41))
		n := len(v.Items)
		resultOf := arranged(t, v)
		subset := func(v impl.Vector, s impl.Vector) impl.Vector { return resultOf(impl.SubsetOf(v, s)) }
		plain := v
		if len(v.Levels) == 0 {
			plain.Class = nil
		}
		checkVector(t, "all positions", subset(v, numbersUpTo(n)), plain)
		order := resultOf(orderedUp(v))
		checkVector(t, "known ones in order", subset(v, vectorOf(impl.KindNumber, order.Items[:len(knownByText(v.Items))]...)), resultOf(impl.SortOf(v, false)))
		checkVector(t, "backwards", subset(v, resultOf(impl.ReverseOf(numbersUpTo(n)))), resultOf(impl.ReverseOf(v)))
		checkVector(t, "unique elements", withoutNames(subset(v, not(t, resultOf(impl.DuplicatedIn(v))))), resultOf(impl.UniqueOf(v)))
		if n > 0 {
			checkVector(t, "all elements", subset(v, logicals(1)), plain)
			test := resultOf(impl.MissingIn(randomOperand(source, impl.KindText, n)))
			checkVector(t, "true positions", subset(v, test), subset(v, resultOf(impl.WhichOf(test))))
		}
		// Where all names are empty there are none, and then no <NA> either.
		v.Names = distinct(n, 2)
		a, b := randomSelection(source, n), randomSelection(source, 6)
		checkVector(t, "a subset of a subset", subset(subset(v, a), b), subset(v, subset(a, b)))
	}
}

// randomSelection returns numbers from 1 to n and missing ones, or none if n is 0.
func randomSelection(source *rand.Rand, n int) impl.Vector {
	s := numbers()
	for range 6 {
		switch {
		case source.IntN(6) == 0:
			s.Items = append(s.Items, missingItem())
		case n > 0:
			s.Items = append(s.Items, whole(source.IntN(n)+1))
		}
	}
	return s
}

// TestElementsFitTogether compares elements with subsets of one element, and fields with elements by their names.
func TestElementsFitTogether(t *testing.T) {
	source := rand.New(rand.NewPCG(9, 4))
	for range 4000 {
		v := randomVector(source, source.IntN(5), 8, 3)
		resultOf := arranged(t, v)
		for i := range lengthByText(v) {
			element := resultOf(impl.ElementOf(v, numbers(i+1)))
			subset := withoutNames(resultOf(impl.SubsetOf(v, numbers(i+1))))
			if v.Kind == impl.KindList {
				element = resultOf(impl.ListVector([]impl.Vector{element}, nil))
			}
			checkVector(t, fmt.Sprintf("element %d of %s", i+1, fieldsOf(v)), element, subset)
			if v.Kind == impl.KindList && len(v.Names) > 0 && v.Names[i] != "" {
				field := resultOf(impl.FieldOf(v, v.Names[i]))
				checkVector(t, "field of "+fieldsOf(v), field, resultOf(impl.ElementOf(v, texts(v.Names[i]))))
			}
		}
	}
}

// TestSubscriptsShareNoMemory also checks that the functions change nothing, not even behind the end of a slice.
func TestSubscriptsShareNoMemory(t *testing.T) {
	list := append(ordinaryVectors(),
		sample{"numbers with names", classed(named(numbers(9, 7, 8), "a", "b", "a"), "f")},
		sample{"strings", named(holed("a", "-", "b"), "p", "", "q")},
		sample{"positions", gaps(0, 1, 3)},
		sample{"negative positions", numbers(-1, 0, -3)},
		sample{"one position", numbers(1)},
		sample{"one true value", logicals(1)},
		sample{"names", texts("a", "z", "y", "n", "p")},
		sample{"one factor", named(factor(3, 0, 1, 2), "a", "b", "c", "d")},
		sample{"lists in a list", named(listOf(named(listOf(factor(1, 2), numbers(2)), "x", "y"), classed(texts("a"), "c")), "p", "q")})
	for _, s := range list {
		for _, other := range list {
			v, subscript := roomy(s.vector), roomy(other.vector)
			before, beforeSubscript := contentOf(v), contentOf(subscript)
			regions := slices.Concat(regionsOf(v), regionsOf(subscript))
			name := other.name + " of " + s.name
			positions, _ := impl.ResolvePositions(lengthByText(v), v.Names, subscript)
			checkApart(t, "positions: "+name, regionOf(positions), regions)
			w, _ := impl.SubsetOf(v, subscript)
			checkApart(t, "subset: "+name, regionsOf(w), regions)
			w, _ = impl.ElementOf(v, subscript)
			checkApart(t, "element: "+name, regionsOf(w), regions)
			for _, field := range []string{"a", "n", "p", "q", "x"} {
				w, _ = impl.FieldOf(v, field)
				checkApart(t, "field of "+s.name, regionsOf(w), regions)
			}
			if contentOf(v) != before || contentOf(subscript) != beforeSubscript {
				t.Errorf("%s: an argument has changed", name)
			}
			w, _ = impl.SubsetOf(v, v)
			checkApart(t, "subset by itself: "+s.name, regionsOf(w), regions)
		}
	}
}

// TestEqualPositionsShareNoMemory has one part of a list several times.
func TestEqualPositionsShareNoMemory(t *testing.T) {
	v := roomy(named(listOf(named(listOf(factor(1, 2), named(numbers(2), "in")), "x", "y"), texts("a")), "p", "q"))
	for _, s := range []impl.Vector{numbers(1, 1), numbers(1, 2, 1, 2, 3), texts("p", "p", "z"), gaps(1, 1)} {
		w, problem := impl.SubsetOf(v, s)
		want, _ := subsetByText(v, s)
		checkResult(t, fieldsOf(s), w, problem, want)
		checkApart(t, fieldsOf(s), regionsOf(w), regionsOf(v))
	}
}

// TestSubscriptsInUse checks that changing a result does not change what a second call returns.
func TestSubscriptsInUse(t *testing.T) {
	names := roomySlice([]string{"a", "b", "a"}, "mark")
	v := named(listOf(numbers(1), texts("x"), numbers(3)), names...)
	for range 2 {
		list, problem := impl.ResolvePositions(3, names, texts("z", "b", "y"))
		checkPositions(t, "positions", list, problem, []int{4, 2, 5}, "")
		list[0] = 7
		w, problem := impl.SubsetOf(v, numbers(2, 4))
		checkResult(t, "subset", w, problem, named(listOf(texts("x"), impl.Vector{}), "b", "<NA>"))
		w.Parts[0].Items[0], w.Names[0] = word("changed"), "changed"
		w, problem = impl.ElementOf(v, texts("a"))
		checkResult(t, "element", w, problem, numbers(1))
		w.Items[0] = whole(7)
		w, problem = impl.FieldOf(v, "b")
		checkResult(t, "field", w, problem, texts("x"))
		w.Items[0] = word("changed")
	}
	if strings.Join(names[:cap(names)], " ") != "a b a mark mark mark" {
		t.Errorf("the names have changed: %q", names[:cap(names)])
	}
}
