package tests

import (
	"math/big"
	"math/rand/v2"
	"slices"
	"strings"
	"testing"

	"loop.example/g03406/impl"
)

const (
	notElements = "not a vector of elements"
	notLogical  = "not a logical vector"
)

// An arrangement is one of the functions that take one vector, and what the document says about it.
type arrangement struct {
	name     string
	call     func(v impl.Vector) (impl.Vector, string)
	suits    func(v impl.Vector) bool
	unsuited string
	// result returns what the function is to return for a vector that suits it.
	result func(v impl.Vector) impl.Vector
}

func orderedUp(v impl.Vector) (impl.Vector, string) { return positionVector(impl.OrderOf(v, false)) }

func orderedDown(v impl.Vector) (impl.Vector, string) { return positionVector(impl.OrderOf(v, true)) }

func sortedUp(v impl.Vector) (impl.Vector, string) { return impl.SortOf(v, false) }

func sortedDown(v impl.Vector) (impl.Vector, string) { return impl.SortOf(v, true) }

// positionVector makes a vector of the results of OrderOf; with a problem it is NULL only if there are no positions.
func positionVector(list []int, problem string) (impl.Vector, string) {
	if problem != "" && len(list) == 0 {
		return impl.Vector{}, problem
	}
	return numbers(list...), problem
}

func arrangements() []arrangement {
	return []arrangement{
		{"OrderOf up", orderedUp, isAtomicByText, notAtomic, func(v impl.Vector) impl.Vector { return numbers(orderByText(v, false)...) }},
		{"OrderOf down", orderedDown, isAtomicByText, notAtomic, func(v impl.Vector) impl.Vector { return numbers(orderByText(v, true)...) }},
		{"SortOf up", sortedUp, isAtomicByText, notAtomic, func(v impl.Vector) impl.Vector { return sortByText(v, false) }},
		{"SortOf down", sortedDown, isAtomicByText, notAtomic, func(v impl.Vector) impl.Vector { return sortByText(v, true) }},
		{"ReverseOf", impl.ReverseOf, func(v impl.Vector) bool { return v.Kind != impl.KindFunction }, notElements, reverseByText},
		{"DuplicatedIn", impl.DuplicatedIn, isAtomicByText, notAtomic, duplicatedByText},
		{"UniqueOf", impl.UniqueOf, isAtomicByText, notAtomic, uniqueByText},
		{"WhichOf", impl.WhichOf, func(v impl.Vector) bool { return v.Kind == impl.KindLogical }, notLogical, whichByText},
		{"RanksOf", impl.RanksOf, isAtomicByText, notAtomic, ranksByText},
	}
}

// differenceByText compares two known elements of v.
func differenceByText(v impl.Vector, x impl.Item, y impl.Item) int {
	if v.Kind == impl.KindText {
		return strings.Compare(x.Text, y.Text)
	}
	return ratOf(x).Cmp(ratOf(y))
}

// precedesByText reports whether the element at index i of v comes before that at index k.
func precedesByText(v impl.Vector, i int, k int, decreasing bool) bool {
	x, y := v.Items[i], v.Items[k]
	switch {
	case x == missingItem() && y == missingItem():
		return i < k
	case x == missingItem() || y == missingItem():
		return y == missingItem()
	}
	difference := differenceByText(v, x, y)
	if difference == 0 {
		return i < k
	}
	return difference < 0 != decreasing
}

// orderByText counts the elements that come before each one.
func orderByText(v impl.Vector, decreasing bool) []int {
	positions := make([]int, len(v.Items))
	for i := range v.Items {
		place := 0
		for k := range v.Items {
			if precedesByText(v, k, i, decreasing) {
				place++
			}
		}
		positions[place] = i + 1
	}
	return positions
}

// pickedByText returns the elements of v at the positions.
func pickedByText(v impl.Vector, positions []int) impl.Vector {
	w := impl.Vector{Kind: v.Kind}
	if len(v.Levels) > 0 {
		w.Class, w.Levels = v.Class, v.Levels
	}
	for _, position := range positions {
		if v.Kind == impl.KindList {
			w.Parts = append(w.Parts, v.Parts[position-1])
		} else {
			w.Items = append(w.Items, v.Items[position-1])
		}
		if len(v.Names) > 0 {
			w.Names = append(w.Names, v.Names[position-1])
		}
	}
	if longest(w.Names) == 0 {
		w.Names = nil
	}
	return w
}

func sortByText(v impl.Vector, decreasing bool) impl.Vector {
	return pickedByText(v, slices.DeleteFunc(orderByText(v, decreasing), func(position int) bool { return v.Items[position-1] == missingItem() }))
}

func reverseByText(v impl.Vector) impl.Vector {
	var positions []int
	for position := lengthByText(v); position > 0; position-- {
		positions = append(positions, position)
	}
	return pickedByText(v, positions)
}

// firstByText returns the position of the first element that is equal to the one at index i.
func firstByText(v impl.Vector, i int) int {
	for k, x := range v.Items {
		if x == v.Items[i] {
			return k + 1
		}
	}
	return 0
}

func duplicatedByText(v impl.Vector) impl.Vector {
	w := logicals()
	for i := range v.Items {
		w.Items = append(w.Items, truth(firstByText(v, i) <= i))
	}
	return w
}

func uniqueByText(v impl.Vector) impl.Vector {
	var positions []int
	for i := range v.Items {
		if firstByText(v, i) == i+1 {
			positions = append(positions, i+1)
		}
	}
	w := pickedByText(v, positions)
	w.Names = nil
	return w
}

func whichByText(v impl.Vector) impl.Vector {
	w := numbers()
	for i, x := range v.Items {
		if x == whole(1) {
			w.Items = append(w.Items, whole(i+1))
		}
	}
	return w
}

func ranksByText(v impl.Vector) impl.Vector {
	w := named(numbers(), v.Names...)
	order := orderByText(v, false)
	for _, x := range v.Items {
		sum, count := int64(0), int64(0)
		for place, position := range order {
			if v.Items[position-1] == x {
				sum += int64(place + 1)
				count++
			}
		}
		if x == missingItem() {
			w.Items = append(w.Items, x)
		} else {
			w.Items = append(w.Items, itemOf(big.NewRat(sum, count)))
		}
	}
	return w
}

// check takes a vector that must not be circular.
func (a arrangement) check(t *testing.T, name string, v impl.Vector) {
	t.Helper()
	name = a.name + " of " + name
	w, problem := a.call(v)
	switch {
	case faultOf(v) != "":
		checkProblem(t, name, w, problem, invalidVector)
	case !a.suits(v):
		checkProblem(t, name, w, problem, a.unsuited)
	default:
		checkResult(t, name, w, problem, a.result(v))
		if !impl.IsVector(w) {
			t.Errorf("%s: no vector", name)
		}
	}
}

func checkArrangements(t *testing.T, name string, v impl.Vector) {
	t.Helper()
	for _, a := range arrangements() {
		a.check(t, name, v)
	}
}

// problemOfMatchByText returns the problem of v, and that of the table only if v has none.
func problemOfMatchByText(v impl.Vector, table impl.Vector) string {
	for _, operand := range []impl.Vector{v, table} {
		if faultOf(operand) != "" {
			return invalidVector
		}
		if !isAtomicByText(operand) {
			return notAtomic
		}
	}
	return ""
}

func matchByText(v impl.Vector, table impl.Vector) impl.Vector {
	asTexts := isTextByText(v) || isTextByText(table)
	isEqual := func(x impl.Item, y impl.Item) bool {
		if x == missingItem() || y == missingItem() || !asTexts {
			return x == y
		}
		return plainTextOf(v, x) == plainTextOf(table, y)
	}
	w := numbers()
	for _, x := range v.Items {
		found := missingItem()
		for i := len(table.Items) - 1; i >= 0; i-- {
			if isEqual(x, table.Items[i]) {
				found = whole(i + 1)
			}
		}
		w.Items = append(w.Items, found)
	}
	return w
}

// checkMatch takes vectors that must not be circular.
func checkMatch(t *testing.T, v impl.Vector, table impl.Vector) {
	t.Helper()
	name := fieldsOf(v) + " in " + fieldsOf(table)
	w, problem := impl.MatchIn(v, table)
	if want := problemOfMatchByText(v, table); want != "" {
		checkProblem(t, name, w, problem, want)
		return
	}
	checkResult(t, name, w, problem, matchByText(v, table))
	if !impl.IsVector(w) {
		t.Errorf("%s: no vector", name)
	}
}

// holed returns strings with a missing one in place of each "-".
func holed(list ...string) impl.Vector {
	v := texts(list...)
	for i, s := range list {
		if s == "-" {
			v.Items[i] = missingItem()
		}
	}
	return v
}

func TestOrderOfInWords(t *testing.T) {
	for _, c := range []struct {
		from     impl.Vector
		up, down []int
	}{
		{numbers(3, 1, 2), []int{2, 3, 1}, []int{1, 3, 2}},
		{numbers(1, 2, 1), []int{1, 3, 2}, []int{2, 1, 3}},
		{numbers(5, 5, 5), []int{1, 2, 3}, []int{1, 2, 3}},
		{numbers(10, 9, -10, -9), []int{3, 4, 2, 1}, []int{1, 2, 4, 3}},
		{fractions(1, 2, 1, 3, 2, 5, -1, 2), []int{4, 2, 3, 1}, []int{1, 3, 2, 4}},
		{fractions(0, 0, 1, 1), []int{2, 1}, []int{2, 1}},
		{gaps(2, 1, 2), []int{3, 1, 5, 2, 4, 6}, []int{1, 5, 3, 2, 4, 6}},
		{missing(impl.KindNumber, 3), []int{1, 2, 3}, []int{1, 2, 3}},
		{missing(impl.KindText, 2), []int{1, 2}, []int{1, 2}},
		{logicals(1, 2, 0, 1, 0), []int{3, 5, 1, 4, 2}, []int{1, 4, 3, 5, 2}},
		{texts("b", "a", "c", "a"), []int{2, 4, 1, 3}, []int{3, 1, 2, 4}},
		{texts("10", "9", "-1"), []int{3, 1, 2}, []int{2, 1, 3}},
		{texts("a", "B", "", "a\x00", "\xff", "\x00", "é"), []int{3, 6, 2, 1, 4, 7, 5}, []int{5, 7, 4, 1, 2, 6, 3}},
		{holed("-", "NA", "", "-", "Z"), []int{3, 2, 5, 1, 4}, []int{5, 2, 3, 1, 4}},
		{levelled(numbers(2, 1, 3), "z", "y", "x"), []int{2, 1, 3}, []int{3, 1, 2}},
		{factor(3, 0, 1, 3, 2), []int{3, 5, 1, 4, 2}, []int{1, 4, 5, 3, 2}},
		{named(numbers(2, 1), "a", "b"), []int{2, 1}, []int{1, 2}},
		{classed(numbers(2, 1), "c"), []int{2, 1}, []int{1, 2}},
		{numbers(7), []int{1}, []int{1}},
		{impl.Vector{}, nil, nil},
		{numbers(), nil, nil},
		{logicals(), nil, nil},
		{texts(), nil, nil},
		{factor(), nil, nil},
	} {
		for decreasing, want := range map[bool][]int{false: c.up, true: c.down} {
			list, problem := impl.OrderOf(c.from, decreasing)
			if problem != "" || !slices.Equal(list, want) {
				t.Errorf("order of %s, decreasing %v: %v, %q", fieldsOf(c.from), decreasing, list, problem)
			}
		}
	}
}

func TestSortOfInWords(t *testing.T) {
	money := classed(named(numbers(2, 1, 2), "a", "b", "c"), "money")
	grades := named(factor(3, 0, 1, 3), "p", "q", "r", "s")
	for _, c := range []struct{ from, up, down impl.Vector }{
		{numbers(3, 1, 2), numbers(1, 2, 3), numbers(3, 2, 1)},
		{numbers(-1, 0, -2, 0), numbers(-2, -1, 0, 0), numbers(0, 0, -1, -2)},
		{fractions(1, 2, 0, 0, 1, 3), fractions(1, 3, 1, 2), fractions(1, 2, 1, 3)},
		{gaps(2, 1), numbers(1, 2), numbers(2, 1)},
		{logicals(1, 2, 0, 1), logicals(0, 1, 1), logicals(1, 1, 0)},
		{texts("b", "10", "9", ""), texts("", "10", "9", "b"), texts("b", "9", "10", "")},
		{holed("-", "b", "-", "NA"), texts("NA", "b"), texts("b", "NA")},
		{missing(impl.KindNumber, 2), numbers(), numbers()},
		{missing(impl.KindText, 1), texts(), texts()},
		{logicals(2), logicals(), logicals()},
		{money, named(numbers(1, 2, 2), "b", "a", "c"), named(numbers(2, 2, 1), "a", "c", "b")},
		{named(numbers(2, 1), "", "b"), named(numbers(1, 2), "b", ""), named(numbers(2, 1), "", "b")},
		{named(fractions(3, 1, 0, 0, 1, 1), "", "b", ""), numbers(1, 3), numbers(3, 1)},
		{named(missing(impl.KindNumber, 2), "a", "b"), numbers(), numbers()},
		{named(holed("x", "-"), "", "b"), texts("x"), texts("x")},
		{grades, named(factor(1, 3, 3), "r", "p", "s"), named(factor(3, 3, 1), "p", "s", "r")},
		{levelled(numbers(2, 1, 3), "z", "y", "x"), levelled(numbers(1, 2, 3), "z", "y", "x"), levelled(numbers(3, 2, 1), "z", "y", "x")},
		{named(factor(0, 2), "a", ""), factor(2), factor(2)},
		{factor(0, 0), factor(), factor()},
		{factor(), factor(), factor()},
		{classed(texts("b", "a"), "c", "d"), texts("a", "b"), texts("b", "a")},
		{classed(logicals(), "c"), logicals(), logicals()},
		{impl.Vector{}, impl.Vector{}, impl.Vector{}},
		{numbers(), numbers(), numbers()},
	} {
		v, problem := impl.SortOf(c.from, false)
		checkResult(t, "sorted "+fieldsOf(c.from), v, problem, c.up)
		v, problem = impl.SortOf(c.from, true)
		checkResult(t, "sorted down "+fieldsOf(c.from), v, problem, c.down)
	}
}

func TestReverseOfInWords(t *testing.T) {
	table := classed(named(listOf(numbers(1, 2), texts("a")), "n", "t"), "data.frame")
	inner := classed(named(listOf(factor(2, 1), numbers(1, 2)), "f", ""), "inner")
	for _, c := range []struct{ from, want impl.Vector }{
		{numbers(1, 2, 3), numbers(3, 2, 1)},
		{numbers(2, 9, 4, 4), numbers(4, 4, 9, 2)},
		{logicals(1, 2, 0), logicals(0, 2, 1)},
		{gaps(1, 2), fractions(0, 0, 2, 1, 0, 0, 1, 1)},
		{holed("-", "b"), holed("b", "-")},
		{missing(impl.KindText, 2), missing(impl.KindText, 2)},
		{named(numbers(1, 2, 3), "a", "", "c"), named(numbers(3, 2, 1), "c", "", "a")},
		{classed(named(numbers(1, 2), "", "b"), "money"), named(numbers(2, 1), "b", "")},
		{named(factor(1, 0, 3), "a", "b", "c"), named(factor(3, 0, 1), "c", "b", "a")},
		{levelled(numbers(1, 2), "x", "y"), levelled(numbers(2, 1), "x", "y")},
		{classed(texts("a"), "c"), texts("a")},
		{table, named(listOf(texts("a"), numbers(1, 2)), "t", "n")},
		{listOf(inner, impl.Vector{}, function(1, 2)), listOf(function(1, 2), impl.Vector{}, inner)},
		{classed(listOf(), "c"), listOf()},
		{impl.Vector{}, impl.Vector{}},
		{numbers(), numbers()},
		{texts(), texts()},
		{classed(logicals(), "c"), logicals()},
		{factor(), factor()},
	} {
		v, problem := impl.ReverseOf(c.from)
		checkResult(t, "reversed "+fieldsOf(c.from), v, problem, c.want)
	}
}

func TestDuplicatesInWords(t *testing.T) {
	for _, c := range []struct{ from, duplicated, unique impl.Vector }{
		{numbers(1, 2, 1), logicals(0, 0, 1), numbers(1, 2)},
		{numbers(2, 2, 2), logicals(0, 1, 1), numbers(2)},
		{numbers(3, 1, 3, 2, 1), logicals(0, 0, 1, 0, 1), numbers(3, 1, 2)},
		{fractions(1, 2, -1, 2, 1, 2, 2, 1), logicals(0, 0, 1, 0), fractions(1, 2, -1, 2, 2, 1)},
		{gaps(1, 1, 0), logicals(0, 0, 1, 1, 0, 1), fractions(1, 1, 0, 0, 0, 1)},
		{fractions(0, 0, 0, 1, 0, 0), logicals(0, 0, 1), fractions(0, 0, 0, 1)},
		{missing(impl.KindNumber, 3), logicals(0, 1, 1), missing(impl.KindNumber, 1)},
		{logicals(2, 1, 0, 1, 2), logicals(0, 0, 0, 1, 1), logicals(2, 1, 0)},
		{texts("a", "A", "a", "", ""), logicals(0, 0, 1, 0, 1), texts("a", "A", "")},
		{holed("NA", "-", "", "-"), logicals(0, 0, 0, 1), holed("NA", "-", "")},
		{named(numbers(1, 1, 2), "a", "b", "c"), logicals(0, 1, 0), numbers(1, 2)},
		{named(numbers(1, 2), "a", "a"), logicals(0, 0), numbers(1, 2)},
		{classed(named(texts("x", "x"), "a", ""), "c"), logicals(0, 1), texts("x")},
		{named(factor(3, 0, 3, 1, 0), "a", "b", "c", "d", "e"), logicals(0, 0, 1, 0, 1), factor(3, 0, 1)},
		{levelled(numbers(2, 2), "x", "y"), logicals(0, 1), levelled(numbers(2), "x", "y")},
		{classed(named(numbers(4), "a"), "c"), logicals(0), numbers(4)},
		{impl.Vector{}, logicals(), impl.Vector{}},
		{numbers(), logicals(), numbers()},
		{logicals(), logicals(), logicals()},
		{classed(texts(), "c"), logicals(), texts()},
		{factor(), logicals(), factor()},
	} {
		v, problem := impl.DuplicatedIn(c.from)
		checkResult(t, "duplicates in "+fieldsOf(c.from), v, problem, c.duplicated)
		v, problem = impl.UniqueOf(c.from)
		checkResult(t, "unique elements of "+fieldsOf(c.from), v, problem, c.unique)
	}
}

func TestMatchInInWords(t *testing.T) {
	null, none := impl.Vector{}, numbers()
	unfound := missing(impl.KindNumber, 1)
	for _, c := range []struct{ from, table, want impl.Vector }{
		{numbers(2, 5), texts("5", "2"), numbers(2, 1)},
		{numbers(7), numbers(1), unfound},
		{numbers(1, 2, 1), numbers(2, 1, 2, 1), numbers(2, 1, 2)},
		{numbers(3, 4), numbers(4), fractions(0, 0, 1, 1)},
		{fractions(1, 2, 2, 1), fractions(2, 1, 1, 2), numbers(2, 1)},
		{fractions(1, 2, 3, 1), texts("3", "1/2", "2/4"), numbers(2, 1)},
		{texts("1/2", "01", "1"), fractions(1, 1, 1, 2), fractions(2, 1, 0, 0, 1, 1)},
		{texts("a", "B", ""), texts("b", "", "a"), fractions(3, 1, 0, 0, 2, 1)},
		{gaps(1), gaps(2, 1), numbers(3, 2)},
		{missing(impl.KindNumber, 1), texts("NA", "NA_number_", ""), unfound},
		{missing(impl.KindNumber, 1), holed("NA", "-", "-"), numbers(2)},
		{holed("NA", "-"), missing(impl.KindLogical, 2), fractions(0, 0, 1, 1)},
		{logicals(2, 1, 0), logicals(0, 2, 1, 2), numbers(2, 3, 1)},
		{logicals(1, 0, 2), numbers(0, 1), fractions(2, 1, 1, 1, 0, 0)},
		{fractions(1, 1, 1, 2, 0, 1), logicals(0, 1), fractions(2, 1, 0, 0, 1, 1)},
		{logicals(1, 0), texts("1", "0", "TRUE", "FALSE"), numbers(3, 4)},
		{texts("TRUE", "true", "1"), logicals(0, 1), fractions(2, 1, 0, 0, 0, 0)},
		{factor(2, 0, 1), texts("low", "mid"), fractions(2, 1, 0, 0, 1, 1)},
		{texts("mid", "high", "2"), factor(3, 2), fractions(2, 1, 1, 1, 0, 0)},
		{factor(1, 2, 3, 0), levelled(fractions(0, 0, 1, 1, 2, 1), "high", "low"), fractions(3, 1, 0, 0, 2, 1, 1, 1)},
		{factor(1, 2), numbers(1, 2), missing(impl.KindNumber, 2)},
		{numbers(1, 2), factor(1, 2), missing(impl.KindNumber, 2)},
		{levelled(numbers(1, 2), "2", "1"), numbers(1, 2), numbers(2, 1)},
		{logicals(1, 0), levelled(numbers(2, 1), "1", "TRUE"), fractions(1, 1, 0, 0)},
		{factor(0), numbers(1, 2), unfound},
		{factor(0), gaps(1), numbers(2)},
		{named(numbers(1, 2), "a", "b"), named(numbers(2, 1), "c", "d"), numbers(2, 1)},
		{classed(numbers(1), "c"), classed(texts("1"), "d"), numbers(1)},
		{null, null, none},
		{null, numbers(1, 2), none},
		{null, texts("a"), none},
		{numbers(), numbers(1), none},
		{texts(), texts("a"), none},
		{factor(), factor(1), none},
		{numbers(1, 2), null, missing(impl.KindNumber, 2)},
		{gaps(1), null, missing(impl.KindNumber, 2)},
		{holed("-", "a"), texts(), missing(impl.KindNumber, 2)},
		{named(logicals(1, 2), "a", "b"), numbers(), missing(impl.KindNumber, 2)},
		{factor(1, 0), factor(), missing(impl.KindNumber, 2)},
	} {
		v, problem := impl.MatchIn(c.from, c.table)
		checkResult(t, fieldsOf(c.from)+" in "+fieldsOf(c.table), v, problem, c.want)
	}
}

func TestWhichOfInWords(t *testing.T) {
	for _, c := range []struct{ from, want impl.Vector }{
		{logicals(0, 1, 2, 1), numbers(2, 4)},
		{logicals(1, 1, 1), numbers(1, 2, 3)},
		{logicals(1), numbers(1)},
		{logicals(0), numbers()},
		{logicals(0, 2, 0), numbers()},
		{logicals(2, 2), numbers()},
		{logicals(), numbers()},
		{named(logicals(1, 0, 1), "a", "b", "c"), numbers(1, 3)},
		{classed(named(logicals(0, 1), "", "b"), "c", "d"), numbers(2)},
		{classed(logicals(), "c"), numbers()},
		{logicals(slices.Repeat([]int{1}, 40)...), numbersUpTo(40)},
	} {
		v, problem := impl.WhichOf(c.from)
		checkResult(t, "true ones of "+fieldsOf(c.from), v, problem, c.want)
	}
}

func TestRanksOfInWords(t *testing.T) {
	for _, c := range []struct{ from, want impl.Vector }{
		{numbers(10, 20, 10), fractions(3, 2, 3, 1, 3, 2)},
		{numbers(30, 10, 20), numbers(3, 1, 2)},
		{numbers(5, 5, 5), numbers(2, 2, 2)},
		{numbers(5, 5, 5, 5), fractions(5, 2, 5, 2, 5, 2, 5, 2)},
		{numbers(9, 1, 9, 1, 9), fractions(4, 1, 3, 2, 4, 1, 3, 2, 4, 1)},
		{fractions(1, 2, 1, 3, 2, 5), numbers(3, 1, 2)},
		{gaps(7, 3, 7), fractions(5, 2, 0, 0, 1, 1, 0, 0, 5, 2, 0, 0)},
		{missing(impl.KindNumber, 2), missing(impl.KindNumber, 2)},
		{missing(impl.KindText, 1), missing(impl.KindNumber, 1)},
		{logicals(1, 2, 0, 1), fractions(5, 2, 0, 0, 1, 1, 5, 2)},
		{texts("b", "10", "9", "b"), fractions(7, 2, 1, 1, 2, 1, 7, 2)},
		{holed("-", "", "NA", "-"), fractions(0, 0, 1, 1, 2, 1, 0, 0)},
		{named(numbers(2, 1), "", "b"), named(numbers(2, 1), "", "b")},
		{classed(named(texts("x"), "a"), "c"), named(numbers(1), "a")},
		{named(gaps(4), "a", "b"), named(fractions(1, 1, 0, 0), "a", "b")},
		{named(factor(3, 0, 1, 3), "p", "", "r", "s"), named(fractions(5, 2, 0, 0, 1, 1, 5, 2), "p", "", "r", "s")},
		{levelled(numbers(2, 1, 3), "z", "y", "x"), numbers(2, 1, 3)},
		{impl.Vector{}, numbers()},
		{numbers(), numbers()},
		{logicals(), numbers()},
		{classed(texts(), "c"), numbers()},
		{factor(), numbers()},
	} {
		v, problem := impl.RanksOf(c.from)
		checkResult(t, "ranks of "+fieldsOf(c.from), v, problem, c.want)
	}
}

// unsuitedProblems returns the problem of each function for v, in the order of arrangements; an empty one where v suits it.
func unsuitedProblems(v impl.Vector) []string {
	var list []string
	for _, a := range arrangements() {
		_, problem := a.call(v)
		list = append(list, problem)
	}
	return list
}

// TestProblemsOfArrangements has vectors that are valid and do not suit some of the functions.
func TestProblemsOfArrangements(t *testing.T) {
	ofFunction := []string{notAtomic, notAtomic, notAtomic, notAtomic, notElements, notAtomic, notAtomic, notLogical, notAtomic}
	ofList := []string{notAtomic, notAtomic, notAtomic, notAtomic, "", notAtomic, notAtomic, notLogical, notAtomic}
	ofOthers := []string{"", "", "", "", "", "", "", notLogical, ""}
	ofLogical := make([]string, 9)
	for _, c := range []struct {
		from impl.Vector
		want []string
	}{
		{function(1, 1), ofFunction},
		{function(0, 0), ofFunction},
		{function(-999, 99999), ofFunction},
		{classed(function(1, 1), "logical"), ofFunction},
		{listOf(), ofList},
		{listOf(numbers(2), numbers(1)), ofList},
		{listOf(logicals(1)), ofList},
		{listOf(impl.Vector{}), ofList},
		{listOf(function(1, 1)), ofList},
		{classed(named(listOf(numbers(1)), "x"), "data.frame"), ofList},
		{impl.Vector{}, ofOthers},
		{numbers(1), ofOthers},
		{numbers(0, 1), ofOthers},
		{numbers(), ofOthers},
		{missing(impl.KindNumber, 1), ofOthers},
		{classed(numbers(1), "logical"), ofOthers},
		{texts("TRUE"), ofOthers},
		{texts(), ofOthers},
		{missing(impl.KindText, 2), ofOthers},
		{factor(1, 2), ofOthers},
		{factor(), ofOthers},
		{levelled(numbers(1), "TRUE"), ofOthers},
		{logicals(1, 0), ofLogical},
		{logicals(), ofLogical},
		{missing(impl.KindLogical, 2), ofLogical},
		{classed(logicals(1), "numeric"), ofLogical},
	} {
		if got := unsuitedProblems(c.from); !slices.Equal(got, c.want) {
			t.Errorf("problems of %s: %q, not %q", fieldsOf(c.from), got, c.want)
		}
		checkArrangements(t, fieldsOf(c.from), c.from)
	}
}

// TestArrangementsOfInvalidVectors has vectors that are invalid alone, and invalid and of a kind that does not suit.
func TestArrangementsOfInvalidVectors(t *testing.T) {
	list := append(invalidVectors(),
		sample{"an invalid function", function(-1000, 0)},
		sample{"an invalid function with names", named(function(1, 1), "a")},
		sample{"an invalid list", listOf(logicals(1), vectorOf(impl.KindLogical, whole(2)))},
		sample{"an invalid list of names", named(listOf(numbers(1)), "")},
		sample{"an invalid number", numbers(2, 1000000000, 1)},
		sample{"an invalid NULL", classed(impl.Vector{}, "a")},
		sample{"an invalid factor", levelled(numbers(4), "a", "b", "c")},
		sample{"invalid missing elements", named(missing(impl.KindNumber, 1), "a", "b")})
	for _, s := range list {
		for _, a := range arrangements() {
			v, problem := a.call(s.vector)
			checkProblem(t, a.name+" of "+s.name, v, problem, invalidVector)
		}
	}
}

// TestProblemsOfMatchIn has each problem of each operand alone, and with those of the other one: that of v comes first.
func TestProblemsOfMatchIn(t *testing.T) {
	invalid, invalidList, list, closure := numbers(1000000000), listOf(numbers(1000000000)), listOf(numbers(1)), function(1, 1)
	good, null := numbers(1), impl.Vector{}
	for _, c := range []struct {
		v, table impl.Vector
		want     string
	}{
		{invalid, good, invalidVector},
		{good, invalid, invalidVector},
		{invalid, invalid, invalidVector},
		{invalidList, good, invalidVector},
		{good, invalidList, invalidVector},
		{null, invalid, invalidVector},
		{invalid, null, invalidVector},
		{invalid, list, invalidVector},
		{invalid, closure, invalidVector},
		{invalidList, list, invalidVector},
		{list, invalid, notAtomic},
		{closure, invalid, notAtomic},
		{listOf(), invalidList, notAtomic},
		{list, good, notAtomic},
		{closure, good, notAtomic},
		{listOf(), good, notAtomic},
		{good, list, notAtomic},
		{good, closure, notAtomic},
		{good, listOf(), notAtomic},
		{null, list, notAtomic},
		{list, null, notAtomic},
		{texts(), closure, notAtomic},
		{closure, factor(), notAtomic},
		{list, closure, notAtomic},
		{closure, list, notAtomic},
	} {
		v, problem := impl.MatchIn(c.v, c.table)
		checkProblem(t, fieldsOf(c.v)+" in "+fieldsOf(c.table), v, problem, c.want)
		checkMatch(t, c.v, c.table)
	}
	for _, s := range invalidVectors() {
		for _, other := range []impl.Vector{good, null, texts("a"), factor(1), s.vector} {
			v, problem := impl.MatchIn(s.vector, other)
			checkProblem(t, s.name, v, problem, invalidVector)
			v, problem = impl.MatchIn(other, s.vector)
			checkProblem(t, s.name, v, problem, invalidVector)
		}
		for _, other := range []impl.Vector{list, listOf(), closure} {
			v, problem := impl.MatchIn(s.vector, other)
			checkProblem(t, s.name, v, problem, invalidVector)
			v, problem = impl.MatchIn(other, s.vector)
			checkProblem(t, s.name, v, problem, notAtomic)
		}
	}
}

func TestArrangementsOfSamples(t *testing.T) {
	list := ordinaryVectors()
	for _, s := range list {
		checkArrangements(t, s.name, s.vector)
		for _, other := range list {
			checkMatch(t, s.vector, other.vector)
		}
	}
}

// TestArrangementsOfNumbers has numbers at the limits, and pairs of them whose difference is small.
func TestArrangementsOfNumbers(t *testing.T) {
	source := rand.New(rand.NewPCG(7, 1))
	list := append(someNumbers(), missingItem())
	for _, x := range list {
		for _, y := range list {
			checkArrangements(t, "two numbers", vectorOf(impl.KindNumber, x, y))
		}
	}
	list = append(list, randomNumbers(200)...)
	for range 300 {
		v := impl.Vector{Kind: impl.KindNumber}
		for range 40 {
			v.Items = append(v.Items, list[source.IntN(len(list))])
		}
		checkArrangements(t, "numbers at the limits", v)
	}
}

// TestArrangementsOfShortVectors has all short vectors of few different elements.
func TestArrangementsOfShortVectors(t *testing.T) {
	for _, list := range listsOver([]int{0, 1, 2}, 5) {
		v, w := logicals(list...), impl.Vector{Kind: impl.KindText}
		for _, x := range list {
			w.Items = append(w.Items, []impl.Item{word("b"), word("a"), missingItem()}[x])
		}
		f := factor(list...)
		for _, x := range []impl.Vector{v, w, f, vectorOf(impl.KindNumber, v.Items...)} {
			checkArrangements(t, fieldsOf(x), x)
			checkArrangements(t, "named "+fieldsOf(x), named(x, distinct(len(list), 3)...))
			for _, table := range []impl.Vector{v, w, f} {
				checkMatch(t, x, table)
			}
		}
	}
}

// crowded returns a vector of this length with so few different elements that most of them are equal to others.
func crowded(source *rand.Rand, kind int, length int) impl.Vector {
	pool := []impl.Item{missingItem()}
	for range source.IntN(5) + 1 {
		pool = append(pool, randomItem(source, kind))
	}
	v := impl.Vector{Kind: kind}
	for range length {
		v.Items = append(v.Items, pool[source.IntN(len(pool))])
	}
	if source.IntN(2) == 0 {
		v.Names = randomNames(source, length)
	}
	if source.IntN(3) == 0 {
		v.Class = []string{"c", "d"}
	}
	if kind == impl.KindNumber && source.IntN(3) == 0 {
		v = withCodes(source, v)
	}
	return v
}

// TestArrangementsOfEachLength has all lengths: short vectors may be ordered in another way than long ones.
func TestArrangementsOfEachLength(t *testing.T) {
	source := rand.New(rand.NewPCG(7, 2))
	for length := range impl.MaxLength + 1 {
		for range 10 {
			for kind := impl.KindLogical; kind <= impl.KindText; kind++ {
				v := crowded(source, kind, length)
				checkArrangements(t, fieldsOf(v), v)
				checkMatch(t, v, crowded(source, source.IntN(3)+1, source.IntN(impl.MaxLength+1)))
				v = randomOperand(source, kind, length)
				checkArrangements(t, fieldsOf(v), v)
			}
		}
	}
}

func TestArrangementsOfRandomVectors(t *testing.T) {
	source := rand.New(rand.NewPCG(7, 3))
	for range 6000 {
		v, w := randomVector(source, source.IntN(6), 8, 3), randomVector(source, source.IntN(6), 8, 2)
		checkArrangements(t, fieldsOf(v), v)
		checkMatch(t, v, w)
	}
	for range 6000 {
		checkMatch(t, randomOperand(source, source.IntN(3)+1, source.IntN(8)), randomOperand(source, source.IntN(3)+1, source.IntN(8)))
	}
}

// arranged returns the result of a call that has no problem.
func arranged(t *testing.T, v impl.Vector) func(w impl.Vector, problem string) impl.Vector {
	return func(w impl.Vector, problem string) impl.Vector {
		t.Helper()
		if problem != "" {
			t.Errorf("%s: %q", fieldsOf(v), problem)
		}
		return w
	}
}

// isPermutation reports whether list has each of the positions from 1 to length once.
func isPermutation(list []int, length int) bool {
	sorted := slices.Sorted(slices.Values(list))
	for i, position := range sorted {
		if position != i+1 {
			return false
		}
	}
	return len(sorted) == length
}

// TestOrdersAreStablePermutations compares each element of an order with the next one by the functions of chapter 2.
func TestOrdersAreStablePermutations(t *testing.T) {
	source := rand.New(rand.NewPCG(7, 4))
	equal := 0
	for range 3000 {
		v := crowded(source, source.IntN(3)+1, source.IntN(41))
		for _, decreasing := range []bool{false, true} {
			list, problem := impl.OrderOf(v, decreasing)
			if problem != "" || !isPermutation(list, len(v.Items)) {
				t.Errorf("order of %s: %v, %q", fieldsOf(v), list, problem)
				continue
			}
			for i := 1; i < len(list); i++ {
				x, y := v.Items[list[i-1]-1], v.Items[list[i]-1]
				if x == y {
					equal++
				}
				if !follows(x, y, decreasing, v.Kind) || x == y && list[i-1] > list[i] {
					t.Errorf("order of %s, decreasing %v: %v", fieldsOf(v), decreasing, list)
				}
			}
		}
	}
	if equal < 1000 {
		t.Errorf("only %d equal elements", equal)
	}
}

// follows reports whether y may stand behind x.
func follows(x impl.Item, y impl.Item, decreasing bool, kind int) bool {
	if !known(x, y) {
		return y == missingItem()
	}
	if decreasing {
		x, y = y, x
	}
	if kind == impl.KindText {
		return x.Text <= y.Text
	}
	return impl.CompareNumbers(x, y) <= 0
}

// TestSortedElementsFollowOneAnother has sorted vectors, which are those of the order, with the same known elements as before, and stay as they are when sorted again.
func TestSortedElementsFollowOneAnother(t *testing.T) {
	source := rand.New(rand.NewPCG(7, 5))
	for range 3000 {
		v := crowded(source, source.IntN(3)+1, source.IntN(20))
		resultOf := arranged(t, v)
		for _, decreasing := range []bool{false, true} {
			sorted := resultOf(impl.SortOf(v, decreasing))
			if len(sorted.Items) != len(knownByText(v.Items)) {
				t.Errorf("sorted %s: %s", fieldsOf(v), fieldsOf(sorted))
				continue
			}
			list, _ := impl.OrderOf(v, decreasing)
			for i, x := range sorted.Items {
				if x != v.Items[list[i]-1] || len(sorted.Names) > 0 && sorted.Names[i] != v.Names[list[i]-1] {
					t.Errorf("sorted %s: %s is not its order %v", fieldsOf(v), fieldsOf(sorted), list)
				}
				if i > 0 && !follows(sorted.Items[i-1], x, decreasing, v.Kind) {
					t.Errorf("sorted %s: %s", fieldsOf(v), fieldsOf(sorted))
				}
			}
			checkVector(t, "sorted again", resultOf(impl.SortOf(sorted, decreasing)), sorted)
			other := resultOf(impl.SortOf(sorted, !decreasing))
			checkVector(t, "sorted in both directions", withoutNames(other), withoutNames(resultOf(impl.ReverseOf(sorted))))
		}
	}
}

func withoutNames(v impl.Vector) impl.Vector {
	v.Names = nil
	return v
}

// TestUniqueElementsAreFoundAgain also checks that the elements that are no duplicates are found at their own positions.
func TestUniqueElementsAreFoundAgain(t *testing.T) {
	source := rand.New(rand.NewPCG(7, 6))
	for range 3000 {
		v := crowded(source, source.IntN(3)+1, source.IntN(41))
		resultOf := arranged(t, v)
		unique := resultOf(impl.UniqueOf(v))
		first := resultOf(impl.MatchIn(unique, v))
		checkVector(t, "first positions", first, resultOf(impl.WhichOf(not(t, resultOf(impl.DuplicatedIn(v))))))
		places := resultOf(impl.MatchIn(v, unique))
		for i, place := range places.Items {
			if !known(place) || unique.Items[place.Num-1] != v.Items[i] {
				t.Errorf("unique elements of %s: element %d is not in %s", fieldsOf(v), i+1, fieldsOf(unique))
			}
		}
		for i, position := range first.Items {
			if !known(position) || v.Items[position.Num-1] != unique.Items[i] {
				t.Errorf("unique elements of %s: %s", fieldsOf(v), fieldsOf(unique))
			}
		}
		checkVector(t, "true ones of duplicates", resultOf(impl.WhichOf(resultOf(impl.DuplicatedIn(unique)))), numbers())
		checkVector(t, "unique elements again", resultOf(impl.UniqueOf(unique)), unique)
		checkVector(t, "matches in itself", resultOf(impl.MatchIn(unique, unique)), numbersUpTo(len(unique.Items)))
	}
}

// TestReversingTwice gives the vector again, without a Class where there are no Levels.
func TestReversingTwice(t *testing.T) {
	source := rand.New(rand.NewPCG(7, 7))
	for range 3000 {
		v := randomVector(source, source.IntN(5), 10, 3)
		resultOf := arranged(t, v)
		want := v
		if len(v.Levels) == 0 {
			want.Class = nil
		}
		checkVector(t, "reversed twice", resultOf(impl.ReverseOf(resultOf(impl.ReverseOf(v)))), want)
	}
}

// TestRanksFitTogether compares ranks with the order: they add up to the sum of the positions, are ordered as the elements, and are the places of elements that have no equal ones.
func TestRanksFitTogether(t *testing.T) {
	source := rand.New(rand.NewPCG(7, 8))
	for range 3000 {
		v := crowded(source, source.IntN(3)+1, source.IntN(41))
		resultOf := arranged(t, v)
		ranks := resultOf(impl.RanksOf(v))
		n := len(knownByText(v.Items))
		checkVector(t, "sum of ranks", resultOf(impl.SumOf(ranks, true)), numbers(n*(n+1)/2))
		checkVector(t, "missing ranks", resultOf(impl.MissingIn(ranks)), resultOf(impl.MissingIn(v)))
		checkVector(t, "order of ranks", resultOf(orderedUp(ranks)), resultOf(orderedUp(v)))
		checkVector(t, "order of ranks down", resultOf(orderedDown(ranks)), resultOf(orderedDown(v)))
		sorted := resultOf(impl.SortOf(resultOf(impl.UniqueOf(v)), false))
		checkVector(t, "ranks of sorted elements", resultOf(impl.RanksOf(sorted)), numbersUpTo(len(sorted.Items)))
	}
}

// TestOrderOfOpposites has numbers and their opposites, whose ascending order is the descending one of the numbers.
func TestOrderOfOpposites(t *testing.T) {
	source := rand.New(rand.NewPCG(7, 9))
	for range 2000 {
		v := crowded(source, impl.KindNumber, source.IntN(41))
		v.Class, v.Levels = nil, nil
		resultOf := arranged(t, v)
		opposite := resultOf(impl.NegateVector(v))
		checkVector(t, "order of opposites", resultOf(orderedUp(opposite)), resultOf(orderedDown(v)))
		checkVector(t, "descending order of opposites", resultOf(orderedDown(opposite)), resultOf(orderedUp(v)))
	}
}

// TestOrderingSharesNoMemory also checks that the functions change nothing, not even behind the end of a slice.
func TestOrderingSharesNoMemory(t *testing.T) {
	list := append(ordinaryVectors(),
		sample{"numbers in descending order", classed(named(numbers(9, 7, 8, 1, 7), "a", "b", "c", "d", "e"), "f")},
		sample{"logical values", named(logicals(2, 1, 0, 1), "p", "", "q", "")},
		sample{"strings in descending order", holed("z", "-", "y", "z", "x")},
		sample{"a factor in descending order", named(factor(3, 0, 2, 3, 1), "a", "b", "c", "d", "e")},
		sample{"lists in a list", named(listOf(named(listOf(factor(1, 2), numbers(2)), "x", "y"), classed(texts("a"), "c")), "p", "q")})
	for _, s := range list {
		v := roomy(s.vector)
		before, regions := contentOf(v), regionsOf(v)
		for _, a := range arrangements() {
			w, _ := a.call(v)
			checkApart(t, a.name+" of "+s.name, regionsOf(w), regions)
		}
		for _, decreasing := range []bool{false, true} {
			positions, _ := impl.OrderOf(v, decreasing)
			checkApart(t, "OrderOf of "+s.name, regionOf(positions), regions)
		}
		for _, other := range list {
			table := roomy(other.vector)
			content, others := contentOf(table), regionsOf(table)
			w, _ := impl.MatchIn(v, table)
			checkApart(t, s.name+" in "+other.name, regionsOf(w), regions, others)
			if contentOf(table) != content {
				t.Errorf("%s in %s: the table has changed", s.name, other.name)
			}
		}
		if contentOf(v) != before {
			t.Errorf("%s: the argument has changed", s.name)
		}
	}
}
