package tests

import (
	"fmt"
	"math/rand/v2"
	"slices"
	"testing"

	"loop.example/g03406/impl"
)

const (
	missingSubscript = "missing subscript"
	notOneElement    = "replacement is not one element"
	invalidClass     = "invalid class"
	invalidLevels    = "invalid levels"
)

// targetsByText returns the positions that s selects for an assignment, and the problems that come first. Its arguments must not be circular.
func targetsByText(v impl.Vector, s impl.Vector, w impl.Vector) ([]int, string) {
	switch {
	case faultOf(v) != "" || faultOf(w) != "":
		return nil, invalidVector
	case v.Kind == impl.KindFunction:
		return nil, notElements
	}
	return resolveByText(lengthByText(v), v.Names, s)
}

func assignSubsetByText(v impl.Vector, s impl.Vector, w impl.Vector) (impl.Vector, string) {
	positions, problem := targetsByText(v, s, w)
	count := lengthByText(w)
	switch {
	case problem != "":
		return impl.Vector{}, problem
	case slices.Contains(positions, 0):
		return impl.Vector{}, missingSubscript
	case v.Kind == impl.KindList && w.Kind == impl.KindNull:
		return deletedByText(v, positions), ""
	case len(positions) == 0:
		return v, ""
	case count == 0:
		return impl.Vector{}, lengthZero
	case len(positions)%count != 0:
		return impl.Vector{}, unmatchedLengths
	case len(v.Levels) > 0 && w.Kind >= impl.KindList:
		return impl.Vector{}, notAtomic
	case len(v.Levels) > 0:
		return placedByText(impl.KindNumber, v, s, positions, codesByText(v, w))
	}
	return placedByText(max(v.Kind, plainKindByText(w)), v, s, positions, valuesByText(w))
}

// deletedByText returns the list without the parts at the positions.
func deletedByText(v impl.Vector, positions []int) impl.Vector {
	rest := slices.DeleteFunc(numbered(1, len(v.Parts)), func(position int) bool { return slices.Contains(positions, position) })
	w := pickedByText(v, rest)
	w.Class = v.Class
	return w
}

// codesByText returns the positions of the strings of w in the levels of v, each in a vector.
func codesByText(v impl.Vector, w impl.Vector) []impl.Vector {
	var codes []impl.Vector
	for _, x := range w.Items {
		code := missing(impl.KindNumber, 1)
		if x != missingItem() && slices.Contains(v.Levels, plainTextOf(w, x)) {
			code = numbers(slices.Index(v.Levels, plainTextOf(w, x)) + 1)
		}
		codes = append(codes, code)
	}
	return codes
}

// plainKindByText returns the kind of the elements of w where they are assigned to a vector without levels.
func plainKindByText(w impl.Vector) int {
	if len(w.Levels) > 0 {
		return impl.KindText
	}
	return min(w.Kind, impl.KindList)
}

// valuesByText returns the elements of w, each of an atomic one in a vector.
func valuesByText(w impl.Vector) []impl.Vector {
	if len(w.Levels) == 0 {
		return elementsByText(w)
	}
	var values []impl.Vector
	for _, x := range w.Items {
		value := missing(impl.KindText, 1)
		if x != missingItem() {
			value = texts(plainTextOf(w, x))
		}
		values = append(values, value)
	}
	return values
}

// placedByText looks, for each position of the result, for the last value that is assigned to it.
func placedByText(kind int, v impl.Vector, s impl.Vector, positions []int, values []impl.Vector) (impl.Vector, string) {
	whole := impl.Vector{Kind: kind, Class: v.Class, Levels: v.Levels}
	for _, position := range numbered(1, max(lengthByText(v), slices.Max(positions))) {
		element, name := impl.Vector{}, ""
		if position <= lengthByText(v) {
			element = elementsByText(v)[position-1]
		}
		if position <= len(v.Names) {
			name = v.Names[position-1]
		}
		for k, other := range positions {
			if other == position {
				element = values[k%len(values)]
			}
			if other == position && position > lengthByText(v) && s.Kind == impl.KindText {
				name = s.Items[k].Text
			}
		}
		whole.Names = append(whole.Names, name)
		switch {
		case kind == impl.KindList:
			whole.Parts = append(whole.Parts, element)
		case len(element.Items) == 0:
			whole.Items = append(whole.Items, missingItem())
		default:
			whole.Items = append(whole.Items, coercedByText(element.Items[0], element.Kind, kind))
		}
	}
	if longest(whole.Names) == 0 {
		whole.Names = nil
	}
	if faultOf(whole) != "" {
		return impl.Vector{}, tooLarge
	}
	return whole, ""
}

func assignElementByText(v impl.Vector, s impl.Vector, w impl.Vector) (impl.Vector, string) {
	positions, problem := targetsByText(v, s, w)
	isList := v.Kind == impl.KindList
	isOneItem := w.Kind <= impl.KindText && len(w.Items) == 1
	switch {
	case problem != "":
		return impl.Vector{}, problem
	case lengthByText(s) != 1 || len(positions) != 1 || positions[0] == 0:
		return impl.Vector{}, outOfBounds
	case !isList && isOneItem:
		return assignSubsetByText(v, s, w)
	case !isList && v.Kind != impl.KindNull:
		return impl.Vector{}, notOneElement
	}
	v.Kind = impl.KindList
	if w.Kind == impl.KindNull {
		return deletedByText(v, positions), ""
	}
	return placedByText(impl.KindList, v, s, positions, []impl.Vector{w})
}

func assignFieldByText(v impl.Vector, name string, w impl.Vector) (impl.Vector, string) {
	switch {
	case faultOf(v) != "" || faultOf(w) != "":
		return impl.Vector{}, invalidVector
	case v.Kind != impl.KindList && v.Kind != impl.KindNull:
		return impl.Vector{}, notList
	case len(name) < 1 || len(name) > 60:
		return impl.Vector{}, invalidNames
	}
	v.Kind = impl.KindList
	return assignElementByText(v, texts(name), w)
}

func assignNamesByText(v impl.Vector, w impl.Vector) (impl.Vector, string) {
	switch {
	case faultOf(v) != "" || faultOf(w) != "":
		return impl.Vector{}, invalidVector
	case v.Kind == impl.KindNull || v.Kind == impl.KindFunction:
		return impl.Vector{}, notElements
	case w.Kind != impl.KindNull && w.Kind != impl.KindText || lengthByText(w) > lengthByText(v):
		return impl.Vector{}, invalidNames
	}
	v.Names = nil
	for _, x := range w.Items {
		v.Names = append(v.Names, x.Text)
	}
	for len(v.Names) < lengthByText(v) {
		v.Names = append(v.Names, "")
	}
	if longest(v.Names) == 0 {
		v.Names = nil
	}
	return v, ""
}

// assignLabelsByText assigns to the class or to the levels of v; the problem of w is given.
func assignLabelsByText(v impl.Vector, w impl.Vector, toLevels bool, problem string) (impl.Vector, string) {
	switch {
	case faultOf(v) != "" || faultOf(w) != "":
		return impl.Vector{}, invalidVector
	case w.Kind != impl.KindNull && w.Kind != impl.KindText || slices.Contains(w.Items, missingItem()):
		return impl.Vector{}, problem
	}
	var labels []string
	for _, x := range w.Items {
		labels = append(labels, x.Text)
	}
	if toLevels {
		v.Levels = labels
	} else {
		v.Class = labels
	}
	if faultOf(v) != "" {
		return impl.Vector{}, problem
	}
	return v, ""
}

// checkAssigned has the two functions that take a subscript.
func checkAssigned(t *testing.T, v impl.Vector, s impl.Vector, w impl.Vector) {
	t.Helper()
	name := fmt.Sprintf("%s at %s of %s", fieldsOf(w), fieldsOf(s), fieldsOf(v))
	got, problem := impl.AssignSubset(v, s, w)
	want, wantedProblem := assignSubsetByText(v, s, w)
	checkOutcome(t, "subset "+name, got, problem, want, wantedProblem)
	got, problem = impl.AssignElement(v, s, w)
	want, wantedProblem = assignElementByText(v, s, w)
	checkOutcome(t, "element "+name, got, problem, want, wantedProblem)
}

func checkAssignedField(t *testing.T, v impl.Vector, field string, w impl.Vector) {
	t.Helper()
	got, problem := impl.AssignField(v, field, w)
	want, wantedProblem := assignFieldByText(v, field, w)
	checkOutcome(t, fmt.Sprintf("%s as field %q of %s", fieldsOf(w), field, fieldsOf(v)), got, problem, want, wantedProblem)
}

// checkAttributes has the three functions for attributes.
func checkAttributes(t *testing.T, v impl.Vector, w impl.Vector) {
	t.Helper()
	name := fmt.Sprintf("%s of %s", fieldsOf(w), fieldsOf(v))
	got, problem := impl.AssignNames(v, w)
	want, wantedProblem := assignNamesByText(v, w)
	checkOutcome(t, "names "+name, got, problem, want, wantedProblem)
	got, problem = impl.AssignClass(v, w)
	want, wantedProblem = assignLabelsByText(v, w, false, invalidClass)
	checkOutcome(t, "class "+name, got, problem, want, wantedProblem)
	got, problem = impl.AssignLevels(v, w)
	want, wantedProblem = assignLabelsByText(v, w, true, invalidLevels)
	checkOutcome(t, "levels "+name, got, problem, want, wantedProblem)
}

// An assignment is one in words: to the vector, by the subscript, of the replacement, with the result.
type assignment struct{ v, s, w, want impl.Vector }

func checkSubsets(t *testing.T, list []assignment) {
	t.Helper()
	for _, c := range list {
		v, problem := impl.AssignSubset(c.v, c.s, c.w)
		checkResult(t, fmt.Sprintf("subset %s at %s of %s", fieldsOf(c.w), fieldsOf(c.s), fieldsOf(c.v)), v, problem, c.want)
		checkAssigned(t, c.v, c.s, c.w)
	}
}

func checkElements(t *testing.T, list []assignment) {
	t.Helper()
	for _, c := range list {
		v, problem := impl.AssignElement(c.v, c.s, c.w)
		checkResult(t, fmt.Sprintf("element %s at %s of %s", fieldsOf(c.w), fieldsOf(c.s), fieldsOf(c.v)), v, problem, c.want)
		checkAssigned(t, c.v, c.s, c.w)
	}
}

// abc gives three elements the names a, b and c.
func abc(v impl.Vector) impl.Vector { return named(v, "a", "b", "c") }

func TestAssignSubsetInWords(t *testing.T) {
	v := abc(numbers(7, 8, 9))
	four := numbers(6, 7, 8, 9)
	checkSubsets(t, []assignment{
		{v, numbers(2), numbers(5), abc(numbers(7, 5, 9))},
		{v, numbers(3, 1), numbers(1, 2), abc(numbers(2, 8, 1))},
		{v, numbers(0, 2, 0), numbers(5), abc(numbers(7, 5, 9))},
		{v, numbers(-2), numbers(1, 2), abc(numbers(1, 8, 2))},
		{v, numbers(-1, -3), numbers(5), abc(numbers(7, 5, 9))},
		{v, numbers(-4), numbers(1, 2, 3), abc(numbers(1, 2, 3))},
		{v, logicals(1, 0), numbers(1, 2), abc(numbers(1, 8, 2))},
		{v, logicals(0, 1, 1), numbers(5), abc(numbers(7, 5, 5))},
		{v, logicals(1), numbers(1, 2, 3), abc(numbers(1, 2, 3))},
		{v, texts("b"), numbers(5), abc(numbers(7, 5, 9))},
		{v, texts("c", "a"), numbers(1, 2), abc(numbers(2, 8, 1))},
		{v, factor(3, 1), numbers(1, 2), abc(numbers(2, 8, 1))},
		{v, named(classed(numbers(2), "d"), "a"), numbers(5), abc(numbers(7, 5, 9))},
		{v, numbers(1, 2), fractions(0, 0, 1, 2), abc(fractions(0, 0, 1, 2, 9, 1))},
		{logicals(1, 0, 2), numbers(3, 1), logicals(0, 2), logicals(2, 0, 0)},
		{texts("x", "y"), numbers(2), texts("z"), texts("x", "z")},
		{texts("x", "y"), logicals(1, 0), holed("-"), holed("-", "y")},
		{named(numbers(1, 2, 3), "a", "b", "a"), texts("a"), numbers(5), named(numbers(5, 2, 3), "a", "b", "a")},
		{named(numbers(1, 2, 3), "", "b", ""), texts("b"), numbers(5), named(numbers(1, 5, 3), "", "b", "")},
		{named(numbers(1, 2), "al", "alpha"), texts("alpha"), numbers(5), named(numbers(1, 5), "al", "alpha")},

		// Recycled replacements.
		{four, numbers(1, 2, 3, 4), numbers(1, 2), numbers(1, 2, 1, 2)},
		{four, numbers(4, 3, 2, 1), numbers(1, 2), numbers(2, 1, 2, 1)},
		{four, logicals(1), numbers(5), numbers(5, 5, 5, 5)},
		{four, numbers(-1, -3), numbers(5), numbers(6, 5, 8, 5)},
		{four, logicals(1), fractions(1, 2, 0, 0), fractions(1, 2, 0, 0, 1, 2, 0, 0)},
		{listOf(), numbers(1, 2, 3, 4), listOf(texts("x"), numbers(1, 2)), listOf(texts("x"), numbers(1, 2), texts("x"), numbers(1, 2))},

		// Of equal positions the last one counts.
		{v, numbers(2, 2), numbers(1, 2), abc(numbers(7, 2, 9))},
		{v, numbers(1, 2, 1, 2), numbers(1, 2, 3, 4), abc(numbers(3, 4, 9))},
		{v, numbers(1, 2, 1), numbers(1, 2, 3), abc(numbers(3, 2, 9))},
		{v, numbers(3, 3, 3, 3), numbers(1, 2), abc(numbers(7, 8, 2))},
		{v, texts("b", "a", "b"), numbers(1, 2, 3), abc(numbers(2, 3, 9))},
		{v, numbers(4, 4), numbers(1, 2), named(numbers(7, 8, 9, 2), "a", "b", "c", "")},
		{listOf(texts("x")), numbers(1, 1), listOf(numbers(1), numbers(2)), listOf(numbers(2))},

		// Lists.
		{listOf(numbers(1), texts("x")), numbers(2), listOf(numbers(2, 3)), listOf(numbers(1), numbers(2, 3))},
		{listOf(numbers(1), texts("x")), numbers(2), numbers(5), listOf(numbers(1), numbers(5))},
		{listOf(numbers(1), texts("x")), numbers(2, 1), numbers(5, 6), listOf(numbers(6), numbers(5))},
		{listOf(numbers(1), texts("x")), numbers(1), function(1, 2), listOf(function(1, 2), texts("x"))},
		{listOf(numbers(1), texts("x")), logicals(1), classed(function(1, 2), "c"), listOf(classed(function(1, 2), "c"), classed(function(1, 2), "c"))},
		{listOf(numbers(1), texts("x")), numbers(1), listOf(impl.Vector{}), listOf(impl.Vector{}, texts("x"))},
		{listOf(numbers(1), texts("x")), numbers(1), listOf(listOf(texts("y"))), listOf(listOf(texts("y")), texts("x"))},
		{abc(listOf(numbers(1), texts("x"), listOf())), texts("c"), logicals(2), abc(listOf(numbers(1), texts("x"), logicals(2)))},
	})
}

// TestReplacementsWithAttributes has names, classes and levels of a replacement: of its own ones only the levels matter, and those of its parts stay.
func TestReplacementsWithAttributes(t *testing.T) {
	part := named(factor(1, 2), "p", "q")
	checkSubsets(t, []assignment{
		{numbers(7, 8), numbers(1), named(classed(numbers(5), "c"), "n"), numbers(5, 8)},
		{numbers(7, 8), numbers(3), named(classed(numbers(5), "c"), "n"), numbers(7, 8, 5)},
		{abc(numbers(7, 8, 9)), numbers(2), named(numbers(5), "n"), abc(numbers(7, 5, 9))},
		{abc(numbers(7, 8, 9)), numbers(4), named(numbers(5), "n"), named(numbers(7, 8, 9, 5), "a", "b", "c", "")},
		{classed(numbers(7, 8), "d"), numbers(1), classed(numbers(5), "c"), classed(numbers(5, 8), "d")},
		{classed(texts("x"), "d", "e"), numbers(2), classed(texts("y"), "c"), classed(texts("x", "y"), "d", "e")},
		{impl.Vector{}, numbers(1), named(classed(numbers(5), "c"), "n"), numbers(5)},
		{impl.Vector{}, numbers(2), named(classed(listOf(part), "c"), "n"), listOf(impl.Vector{}, part)},
		{listOf(), numbers(1), named(classed(listOf(part), "c"), "n"), listOf(part)},
		{listOf(), numbers(1), named(classed(texts("x"), "c"), "n"), listOf(texts("x"))},
		{numbers(7), numbers(1), named(classed(listOf(part), "c"), "n"), listOf(part)},

		{numbers(7, 8), numbers(1), factor(3), texts("high", "8")},
		{numbers(7, 8), numbers(1, 2), factor(3, 0), holed("high", "-")},
		{texts("x", "y"), numbers(1, 2), factor(2, 1), texts("mid", "low")},
		{logicals(1, 0), numbers(2), levelled(numbers(1), "u"), texts("TRUE", "u")},
		{impl.Vector{}, numbers(1, 2), factor(2, 0), holed("mid", "-")},
		{listOf(numbers(1), numbers(2)), numbers(1, 2), factor(2, 0), listOf(texts("mid"), missing(impl.KindText, 1))},
		{classed(listOf(), "d"), numbers(1, 2), part, classed(listOf(texts("low"), texts("mid")), "d")},
	})
}

// TestAssignmentsKeepAttributes has the class and the levels of the vector, also where its kind changes.
func TestAssignmentsKeepAttributes(t *testing.T) {
	checkSubsets(t, []assignment{
		{classed(numbers(7, 8), "c", "d"), numbers(1), numbers(5), classed(numbers(5, 8), "c", "d")},
		{classed(numbers(7, 8), "c"), numbers(1), texts("x"), classed(texts("x", "8"), "c")},
		{classed(logicals(1), "c"), numbers(3), numbers(5), classed(fractions(1, 1, 0, 0, 5, 1), "c")},
		{classed(texts("x"), "c"), numbers(1), listOf(numbers(1)), classed(listOf(numbers(1)), "c")},
		{classed(numbers(7), "c"), numbers(2), function(1, 2), classed(listOf(numbers(7), function(1, 2)), "c")},
		{classed(listOf(numbers(7)), "c"), numbers(1), texts("x"), classed(listOf(texts("x")), "c")},
		{classed(abc(listOf(numbers(7), numbers(8), numbers(9))), "c"), texts("z"), listOf(listOf()), classed(named(listOf(numbers(7), numbers(8), numbers(9), listOf()), "a", "b", "c", "z"), "c")},
		{classed(numbers(), "c"), numbers(2), texts("x"), classed(holed("-", "x"), "c")},
		{factor(1, 2), numbers(2), texts("high"), factor(1, 3)},
		{levelled(numbers(1, 2), "u", "v"), numbers(1), texts("v"), levelled(numbers(2, 2), "u", "v")},
		{classed(named(levelled(numbers(1, 2), "u", "v"), "a", ""), "c", "d"), numbers(3), texts("v"), classed(named(levelled(numbers(1, 2, 2), "u", "v"), "a", "", ""), "c", "d")},
	})
	checkElements(t, []assignment{
		{classed(numbers(7, 8), "c"), numbers(1), texts("x"), classed(texts("x", "8"), "c")},
		{classed(listOf(numbers(7)), "c"), numbers(1), classed(numbers(1, 2), "d"), classed(listOf(classed(numbers(1, 2), "d")), "c")},
		{factor(1, 2), numbers(2), texts("high"), factor(1, 3)},
	})
}

// TestAssignmentsBeyondTheLength has missing elements, NULL and empty names in between.
func TestAssignmentsBeyondTheLength(t *testing.T) {
	v := abc(numbers(7, 8, 9))
	checkSubsets(t, []assignment{
		{numbers(7), numbers(3), numbers(5), fractions(7, 1, 0, 0, 5, 1)},
		{numbers(7), numbers(4, 2), numbers(5, 6), fractions(7, 1, 6, 1, 0, 0, 5, 1)},
		{numbers(), numbers(2), numbers(5), fractions(0, 0, 5, 1)},
		{texts(), numbers(3), texts("x"), holed("-", "-", "x")},
		{logicals(1), logicals(0, 0, 1), logicals(0), logicals(1, 2, 0)},
		{logicals(), logicals(0, 1), logicals(1), logicals(2, 1)},
		{numbers(7), logicals(1, 1, 1, 1), numbers(1, 2), numbers(1, 2, 1, 2)},
		{v, numbers(4), numbers(5), named(numbers(7, 8, 9, 5), "a", "b", "c", "")},
		{v, numbers(5), numbers(5), named(fractions(7, 1, 8, 1, 9, 1, 0, 0, 5, 1), "a", "b", "c", "", "")},
		{v, logicals(0, 0, 0, 0, 1), numbers(5), named(fractions(7, 1, 8, 1, 9, 1, 0, 0, 5, 1), "a", "b", "c", "", "")},
		{v, numbers(5), texts("x"), named(holed("7", "8", "9", "-", "x"), "a", "b", "c", "", "")},
		{listOf(numbers(1)), numbers(3), listOf(texts("x")), listOf(numbers(1), impl.Vector{}, texts("x"))},
		{listOf(), numbers(2), numbers(5), listOf(impl.Vector{}, numbers(5))},
		{named(listOf(numbers(1)), "a"), numbers(3), numbers(5), named(listOf(numbers(1), impl.Vector{}, numbers(5)), "a", "", "")},
		{numbers(7), numbers(3), listOf(texts("x")), listOf(numbers(7), impl.Vector{}, texts("x"))},
		{named(numbers(7), "a"), numbers(3), function(1, 2), named(listOf(numbers(7), impl.Vector{}, function(1, 2)), "a", "", "")},
		{factor(1), numbers(3), texts("high"), factor(1, 0, 3)},
		{factor(), numbers(2), texts("low"), factor(0, 1)},
		{named(factor(1), "a"), numbers(3), texts("high"), named(factor(1, 0, 3), "a", "", "")},
		{impl.Vector{}, numbers(2), numbers(5), fractions(0, 0, 5, 1)},
		{impl.Vector{}, numbers(3), texts("x"), holed("-", "-", "x")},
		{impl.Vector{}, logicals(0, 1), logicals(1), logicals(2, 1)},
		{impl.Vector{}, numbers(3), listOf(numbers(5)), listOf(impl.Vector{}, impl.Vector{}, numbers(5))},
		{impl.Vector{}, numbers(2), function(1, 2), listOf(impl.Vector{}, function(1, 2))},
	})
	checkElements(t, []assignment{
		{numbers(7), numbers(3), numbers(5), fractions(7, 1, 0, 0, 5, 1)},
		{v, numbers(5), numbers(5), named(fractions(7, 1, 8, 1, 9, 1, 0, 0, 5, 1), "a", "b", "c", "", "")},
		{listOf(numbers(1)), numbers(3), numbers(1, 2), listOf(numbers(1), impl.Vector{}, numbers(1, 2))},
		{named(listOf(numbers(1)), "a"), numbers(3), listOf(), named(listOf(numbers(1), impl.Vector{}, listOf()), "a", "", "")},
		{impl.Vector{}, numbers(2), numbers(5), fractions(0, 0, 5, 1)},
		{impl.Vector{}, numbers(2), numbers(5, 6), listOf(impl.Vector{}, numbers(5, 6))},
	})
	// All lengths, and all positions up to the longest vector.
	for n := range 41 {
		for position := n + 1; position <= 40; position++ {
			checkAssigned(t, numbersUpTo(n), numbers(position), texts("x"))
			checkAssigned(t, named(numbersUpTo(n), namesOf(n)...), numbers(position), numbers(5))
			checkAssigned(t, listOf(make([]impl.Vector, n)...), numbers(position, position), listOf(numbers(5)))
		}
	}
}

// TestNewNames has text subscripts, whose unknown strings become names.
func TestNewNames(t *testing.T) {
	v := abc(numbers(7, 8, 9))
	checkSubsets(t, []assignment{
		{v, texts("z"), numbers(5), named(numbers(7, 8, 9, 5), "a", "b", "c", "z")},
		{v, texts("z", "y"), numbers(5, 6), named(numbers(7, 8, 9, 5, 6), "a", "b", "c", "z", "y")},
		{v, texts("z", "z"), numbers(5, 6), named(numbers(7, 8, 9, 6), "a", "b", "c", "z")},
		{v, texts("z", "b", "y", "z"), numbers(1, 2, 3, 4), named(numbers(7, 2, 9, 4, 3), "a", "b", "c", "z", "y")},
		{v, texts("z", "y", "z"), numbers(5), named(numbers(7, 8, 9, 5, 5), "a", "b", "c", "z", "y")},
		{v, texts("<NA>", "NA"), numbers(5), named(numbers(7, 8, 9, 5, 5), "a", "b", "c", "<NA>", "NA")},
		{v, texts("A"), texts("x"), named(texts("7", "8", "9", "x"), "a", "b", "c", "A")},
		{v, texts("z"), listOf(listOf()), named(listOf(numbers(7), numbers(8), numbers(9), listOf()), "a", "b", "c", "z")},
		{numbers(7, 8), texts("b"), numbers(9), named(numbers(7, 8, 9), "", "", "b")},
		{numbers(7, 8), texts("b", "a", "b"), numbers(1, 2, 3), named(numbers(7, 8, 3, 2), "", "", "b", "a")},
		{texts("x"), texts("x"), texts("y"), named(texts("x", "y"), "", "x")},
		{logicals(1), texts("1"), logicals(0), named(logicals(1, 0), "", "1")},
		{listOf(numbers(1)), texts("b"), numbers(5), named(listOf(numbers(1), numbers(5)), "", "b")},
		{listOf(), texts("b", "a"), numbers(5, 6), named(listOf(numbers(5), numbers(6)), "b", "a")},
		{factor(1), texts("low"), texts("high"), named(factor(1, 3), "", "low")},
		{numbers(), texts("a"), numbers(5), named(numbers(5), "a")},
		{impl.Vector{}, texts("a"), numbers(5), named(numbers(5), "a")},
		{impl.Vector{}, texts("a", "b", "a"), texts("x", "y", "z"), named(texts("z", "y"), "a", "b")},
		{impl.Vector{}, texts("a"), function(1, 2), named(listOf(function(1, 2)), "a")},
		{impl.Vector{}, texts("a"), listOf(texts("x")), named(listOf(texts("x")), "a")},
		{named(numbers(1, 2, 3), "", "b", ""), texts("a"), numbers(5), named(numbers(1, 2, 3, 5), "", "b", "", "a")},
		{v, texts(bytesOf(60)), numbers(5), named(numbers(7, 8, 9, 5), "a", "b", "c", bytesOf(60))},
		{v, texts("if", "a b", "\x00\xff"), numbers(5), named(numbers(7, 8, 9, 5, 5, 5), "a", "b", "c", "if", "a b", "\x00\xff")},
		{v, named(classed(texts("z"), "c"), "y"), named(numbers(5), "x"), named(numbers(7, 8, 9, 5), "a", "b", "c", "z")},
		// The levels of a subscript are no names.
		{numbers(7), levelled(numbers(2), "u", "v"), numbers(5), numbers(7, 5)},
	})
	checkElements(t, []assignment{
		{v, texts("z"), numbers(5), named(numbers(7, 8, 9, 5), "a", "b", "c", "z")},
		{numbers(7, 8), texts("b"), numbers(9), named(numbers(7, 8, 9), "", "", "b")},
		{listOf(numbers(1)), texts("b"), numbers(5, 6), named(listOf(numbers(1), numbers(5, 6)), "", "b")},
		{listOf(), texts("b"), listOf(), named(listOf(listOf()), "b")},
		{impl.Vector{}, texts("a"), numbers(5), named(numbers(5), "a")},
		{impl.Vector{}, texts("a"), numbers(5, 6), named(listOf(numbers(5, 6)), "a")},
		{impl.Vector{}, texts("a"), function(1, 2), named(listOf(function(1, 2)), "a")},
	})
	for n := range 40 {
		for _, w := range []impl.Vector{numbers(5), texts("x"), listOf(numbers(1)), function(1, 2)} {
			checkAssigned(t, numbersUpTo(n), texts("z"), w)
			checkAssigned(t, named(numbersUpTo(n), namesOf(n)...), texts(append(namesOf(n), "z", "z")[n/2:]...), w)
			checkAssigned(t, listOf(make([]impl.Vector, n)...), texts("z"), w)
		}
	}
}

// TestDeletedParts has a part, several and all of them, by each kind of subscript.
func TestDeletedParts(t *testing.T) {
	none := impl.Vector{}
	p, q, r := numbers(1), named(texts("x", "y"), "in", ""), listOf(factor(2))
	all := classed(abc(listOf(p, q, r)), "c", "d")
	kept := func(v impl.Vector, names ...string) impl.Vector { return classed(named(v, names...), "c", "d") }
	for _, c := range []struct {
		want        impl.Vector
		by, byOther []impl.Vector
	}{
		{kept(listOf(q, r), "b", "c"), []impl.Vector{numbers(1), texts("a"), factor(1)}, []impl.Vector{numbers(-2, -3), numbers(0, 1), numbers(1, 1), logicals(1, 0, 0), texts("a", "a"), numbers(1, 9), texts("z", "a")}},
		{kept(listOf(p, r), "a", "c"), []impl.Vector{numbers(2), texts("b"), factor(2)}, []impl.Vector{numbers(-1, -3), logicals(0, 1), logicals(0, 1, 0), numbers(2, 40), logicals(0, 1, 0, 1)}},
		{kept(listOf(p, q), "a", "b"), []impl.Vector{numbers(3), texts("c"), factor(3)}, []impl.Vector{numbers(-1, -2), logicals(0, 0, 1), numbers(3, 4), texts("c", "y", "z", "y")}},
		{kept(listOf(r), "c"), nil, []impl.Vector{numbers(1, 2), numbers(2, 1), numbers(2, 1, 2, 1, 1), numbers(-3), logicals(1, 1, 0), texts("b", "a"), factor(2, 1), numbers(9, 2, 4, 1)}},
		{kept(listOf(q), "b"), nil, []impl.Vector{numbers(1, 3), numbers(3, 1, 0), numbers(-2, -2), logicals(1, 0), texts("c", "a", "c"), texts("c", "z", "a")}},
		{kept(listOf(p), "a"), nil, []impl.Vector{numbers(2, 3), numbers(-1), logicals(0, 1, 1), texts("b", "c"), numbers(40, 3, 2)}},
		{classed(listOf(), "c", "d"), nil, []impl.Vector{numbers(1, 2, 3), numbers(3, 2, 1), numbers(-4), numbers(-40, -9), logicals(1), logicals(1, 1, 1, 1), texts("a", "b", "c"), factor(2, 3, 1), numbersUpTo(40)}},
		{all, []impl.Vector{numbers(4), numbers(40), texts("z"), texts("A")}, []impl.Vector{none, numbers(), numbers(0, 0), numbers(-1, -2, -3), logicals(), logicals(0), logicals(0, 0, 0, 1), texts(), numbers(4, 5), texts("z", "y"), factor(), numbers(0)}},
	} {
		for _, s := range slices.Concat(c.by, c.byOther) {
			checkSubsets(t, []assignment{{all, s, none, c.want}})
			checkSubsets(t, []assignment{{withoutClass(all), s, none, withoutClass(c.want)}})
			if s.Kind != impl.KindText {
				checkSubsets(t, []assignment{{withoutNames(all), s, none, withoutNames(c.want)}})
			}
		}
		for _, s := range c.by {
			checkElements(t, []assignment{{all, s, none, c.want}})
			checkElements(t, []assignment{{withoutClass(all), s, none, withoutClass(c.want)}})
			if s.Kind == impl.KindText {
				v, problem := impl.AssignField(all, s.Items[0].Text, none)
				checkResult(t, "deleted field "+fieldsOf(s), v, problem, c.want)
			} else {
				checkElements(t, []assignment{{withoutNames(all), s, none, withoutNames(c.want)}})
			}
		}
		for _, s := range c.byOther {
			checkAssigned(t, all, s, none)
		}
	}
}

// TestDeletedPartsOfOtherLists has lists whose names are empty after a deletion, or occur more than once, and subscripts with problems.
func TestDeletedPartsOfOtherLists(t *testing.T) {
	none := impl.Vector{}
	v := listOf(numbers(1), numbers(2), numbers(3))
	checkSubsets(t, []assignment{
		{named(v, "", "b", ""), numbers(2), none, listOf(numbers(1), numbers(3))},
		{named(v, "", "b", ""), texts("b"), none, listOf(numbers(1), numbers(3))},
		{named(v, "", "b", ""), numbers(1), none, named(listOf(numbers(2), numbers(3)), "b", "")},
		{named(v, "", "b", "c"), numbers(2, 3), none, listOf(numbers(1))},
		{classed(named(v, "a", "", ""), "c"), numbers(1), none, classed(listOf(numbers(2), numbers(3)), "c")},
		{named(v, "a", "b", "a"), texts("a"), none, named(listOf(numbers(2), numbers(3)), "b", "a")},
		{named(v, "a", "b", "a"), texts("a", "a"), none, named(listOf(numbers(2), numbers(3)), "b", "a")},
		{v, texts("a"), none, v},
		{listOf(), numbers(1), none, listOf()},
		{listOf(), logicals(1), none, listOf()},
		{listOf(), texts("a"), none, listOf()},
		{classed(listOf(), "c"), numbers(-1), none, classed(listOf(), "c")},
		{listOf(none, none), numbers(1), none, listOf(none)},
		{listOf(function(1, 2), nested(numbers(1), 2)), numbers(1), none, listOf(nested(numbers(1), 2))},
		{named(listOf(make([]impl.Vector, 40)...), namesOf(40)...), texts("z", "y"), none, named(listOf(make([]impl.Vector, 40)...), namesOf(40)...)},
		{listOfCells(200), numbers(1, 2, 3, 4, 5), none, listOf()},
	})
	checkElements(t, []assignment{
		{named(v, "", "b", ""), numbers(2), none, listOf(numbers(1), numbers(3))},
		{named(v, "a", "b", "a"), texts("a"), none, named(listOf(numbers(2), numbers(3)), "b", "a")},
		{listOf(numbers(1), numbers(2)), numbers(-1), none, listOf(numbers(1))},
		{listOf(numbers(1), numbers(2)), numbers(-2), none, listOf(numbers(2))},
		{listOf(numbers(1)), logicals(1), none, listOf()},
		{listOf(numbers(1)), numbers(2), none, listOf(numbers(1))},
		{listOf(numbers(1)), texts("a"), none, listOf(numbers(1))},
		{listOf(), numbers(1), none, listOf()},
	})
	for _, s := range []impl.Vector{missing(impl.KindNumber, 1), missing(impl.KindText, 1), logicals(0, 2), gaps(1), holed("a", "-")} {
		w, problem := impl.AssignSubset(abc(v), s, none)
		checkProblem(t, "deletion at a missing position", w, problem, missingSubscript)
	}
	// NULL takes an element out of lists only.
	for _, other := range []impl.Vector{none, numbers(7, 8), texts("x"), logicals(1), factor(1, 2)} {
		w, problem := impl.AssignSubset(other, numbers(1), none)
		checkProblem(t, "NULL for an element of "+fieldsOf(other), w, problem, lengthZero)
	}
	// All lists of up to 5 parts, and all positions of up to 3 of them.
	for n := range 6 {
		v := numbersUpTo(n)
		list := named(classed(listOf(elementsByText(v)...), "c"), namesOf(n)...)
		eachList(numbered(0, 7), 3, func(positions []int) {
			checkAssigned(t, list, numbers(positions...), none)
			checkAssigned(t, withoutNames(list), numbers(positions...), none)
		})
	}
}

// TestAssignmentsToLevels has strings that are levels, others, and missing ones.
func TestAssignmentsToLevels(t *testing.T) {
	f := factor(1, 2, 0)
	numeric := levelled(numbers(1, 2), "1", "2", "1/2", "TRUE", "NA")
	recoded := func(codes ...int) impl.Vector { return levelled(numbers(codes...), "1", "2", "1/2", "TRUE", "NA") }
	unknown := levelled(fractions(0, 0, 2, 1), "1", "2", "1/2", "TRUE", "NA")
	list := []assignment{
		{f, numbers(1), texts("high"), factor(3, 2, 0)},
		{f, numbers(3), texts("low"), factor(1, 2, 1)},
		{f, numbers(1), texts("none"), factor(0, 2, 0)},
		{f, numbers(1), texts("High"), factor(0, 2, 0)},
		{f, numbers(1), texts("lo"), factor(0, 2, 0)},
		{f, numbers(1), texts(""), factor(0, 2, 0)},
		{f, numbers(1), holed("-"), factor(0, 2, 0)},
		{f, numbers(1), missing(impl.KindLogical, 1), factor(0, 2, 0)},
		{f, numbers(1), missing(impl.KindNumber, 1), factor(0, 2, 0)},
		{f, numbers(1), numbers(2), factor(0, 2, 0)},
		{f, numbers(1), logicals(1), factor(0, 2, 0)},
		{f, numbers(1), factor(3), factor(3, 2, 0)},
		{f, numbers(1), factor(0), factor(0, 2, 0)},
		{f, numbers(1), levelled(numbers(1), "mid", "low"), factor(2, 2, 0)},
		{f, numbers(1), levelled(numbers(3), "x", "y", "z"), factor(0, 2, 0)},
		{f, numbers(1), named(classed(texts("high"), "c"), "n"), factor(3, 2, 0)},
		{f, numbers(5), texts("high"), factor(1, 2, 0, 0, 3)},
		{f, texts("z"), texts("high"), named(factor(1, 2, 0, 3), "", "", "", "z")},
		{factor(), numbers(1), texts("mid"), factor(2)},
		{numeric, numbers(1), numbers(2), recoded(2, 2)},
		{numeric, numbers(1), fractions(1, 2), recoded(3, 2)},
		{numeric, numbers(1), fractions(1, 3), unknown},
		{numeric, numbers(1), logicals(1), recoded(4, 2)},
		{numeric, numbers(1), logicals(0), unknown},
		{numeric, numbers(1), texts("NA"), recoded(5, 2)},
		{numeric, numbers(1), holed("-"), unknown},
		{numeric, numbers(1), missing(impl.KindNumber, 1), unknown},
	}
	checkSubsets(t, list)
	checkElements(t, list)
	checkSubsets(t, []assignment{
		{f, logicals(1), texts("mid", "high", "low"), factor(2, 3, 1)},
		{f, logicals(1), holed("mid", "-", "no"), factor(2, 0, 0)},
		{f, logicals(1), texts("mid"), factor(2, 2, 2)},
		{f, numbers(-2), factor(0, 3), factor(0, 2, 3)},
		{f, numbers(3, 3), texts("mid", "high"), factor(1, 2, 3)},
		{numeric, numbers(3, 1), fractions(2, 1, 1, 2), recoded(3, 2, 2)},
	})
	for _, w := range []impl.Vector{listOf(texts("low")), listOf(listOf()), listOf(impl.Vector{}), function(1, 2), classed(function(0, 0), "c"), named(listOf(numbers(1)), "a")} {
		for _, v := range []impl.Vector{f, numeric, factor(), withoutClass(f)} {
			for _, s := range []impl.Vector{numbers(1), numbers(2, 1), texts("z"), logicals(1, 1, 1)} {
				got, problem := impl.AssignSubset(v, s, w)
				checkProblem(t, "no strings for levels", got, problem, notAtomic)
				checkAssigned(t, v, s, w)
			}
			got, problem := impl.AssignElement(v, numbers(1), w)
			checkProblem(t, "no string for a level", got, problem, notOneElement)
		}
	}
}

// TestAssignmentsConvert has each kind of vector with each kind of replacement.
func TestAssignmentsConvert(t *testing.T) {
	none := impl.Vector{}
	checkSubsets(t, []assignment{
		{logicals(1, 2), numbers(1), logicals(0), logicals(0, 2)},
		{logicals(1, 2), numbers(1), numbers(5), fractions(5, 1, 0, 0)},
		{logicals(1, 2), numbers(2), numbers(0), numbers(1, 0)},
		{logicals(1), numbers(1), numbers(0), numbers(0)},
		{logicals(1), numbers(1), missing(impl.KindNumber, 1), missing(impl.KindNumber, 1)},
		{logicals(1, 2, 0), numbers(4), texts("x"), holed("TRUE", "-", "FALSE", "x")},
		{logicals(1, 2), numbers(1, 2), texts("x"), texts("x", "x")},
		{logicals(1, 2), numbers(3), listOf(texts("x")), listOf(logicals(1), logicals(2), texts("x"))},
		{logicals(1, 2), numbers(3), function(1, 2), listOf(logicals(1), logicals(2), function(1, 2))},
		{numbers(7, 8), numbers(1), logicals(1), numbers(1, 8)},
		{numbers(7, 8), numbers(1, 2), logicals(2, 0), fractions(0, 0, 0, 1)},
		{fractions(1, 2, 0, 0), numbers(3), texts("x"), holed("1/2", "-", "x")},
		{numbers(7), numbers(1), missing(impl.KindText, 1), missing(impl.KindText, 1)},
		{fractions(1, 2, 0, 0), numbers(3), listOf(none), listOf(fractions(1, 2), fractions(0, 0), none)},
		{numbers(7), numbers(1), listOf(numbers(5)), listOf(numbers(5))},
		{numbers(7), numbers(1), function(1, 2), listOf(function(1, 2))},
		{texts("x", "y"), numbers(1), logicals(0), texts("FALSE", "y")},
		{texts("x", "y"), numbers(1, 2), logicals(1, 2), holed("TRUE", "-")},
		{texts("x", "y"), numbers(2), fractions(-7, 3), texts("x", "-7/3")},
		{texts("x", "y"), numbers(2), missing(impl.KindNumber, 1), holed("x", "-")},
		{holed("x", "-"), numbers(3), listOf(numbers(1)), listOf(texts("x"), missing(impl.KindText, 1), numbers(1))},
		{texts("x"), numbers(2), classed(function(1, 2), "c"), listOf(texts("x"), classed(function(1, 2), "c"))},
		{listOf(none, numbers(1)), numbers(1), logicals(2), listOf(logicals(2), numbers(1))},
		{listOf(none, numbers(1)), numbers(1, 2), fractions(1, 2, 0, 0), listOf(fractions(1, 2), fractions(0, 0))},
		{listOf(none, numbers(1)), numbers(2), texts("x"), listOf(none, texts("x"))},
		{listOf(none, numbers(1)), numbers(2), listOf(listOf()), listOf(none, listOf())},
		{listOf(none, numbers(1)), numbers(2), function(1, 2), listOf(none, function(1, 2))},
		{none, numbers(1), logicals(2), logicals(2)},
		{none, numbers(1), fractions(1, 2), fractions(1, 2)},
		{none, numbers(1), texts("x"), texts("x")},
		{none, numbers(1), listOf(numbers(1, 2)), listOf(numbers(1, 2))},
		{none, numbers(1), function(1, 2), listOf(function(1, 2))},
	})
}

// TestNoPositions has subscripts that select nothing: the result is the vector, whatever the replacement is.
func TestNoPositions(t *testing.T) {
	for _, s := range ordinaryVectors() {
		v, n := s.vector, lengthByText(s.vector)
		if v.Kind == impl.KindFunction {
			continue
		}
		subscripts := []impl.Vector{{}, numbers(), numbers(0, 0), factor(), logicals(), texts(), numbers(numbered(-n-1, -1)...)}
		if n == 40 {
			subscripts[6] = numbers(numbered(-n, -1)...)
		}
		if n > 0 {
			subscripts = append(subscripts, logicals(0), logicals(slices.Repeat([]int{0}, 40)...))
		}
		for _, subscript := range subscripts {
			for _, w := range []impl.Vector{{}, numbers(5), numbers(), texts("x", "y", "z"), listOf(), listOf(listOf()), function(1, 2), factor(1), nested(numbers(1), 3), listOfCells(200)} {
				got, problem := impl.AssignSubset(v, subscript, w)
				checkResult(t, fmt.Sprintf("%s at no position of %s", fieldsOf(w), s.name), got, problem, v)
				checkAssigned(t, v, subscript, w)
				got, problem = impl.AssignElement(v, subscript, w)
				checkProblem(t, "element at no position of "+s.name, got, problem, outOfBounds)
			}
		}
	}
}

// TestMissingSubscripts has missing subscripts of each kind, before all problems of the replacement.
func TestMissingSubscripts(t *testing.T) {
	subscripts := []impl.Vector{
		missing(impl.KindNumber, 1), missing(impl.KindText, 1), missing(impl.KindLogical, 1), factor(0), gaps(1), fractions(0, 0, 2, 1), fractions(0, 1, 0, 0),
		holed("a", "-"), holed("-", "z"), logicals(1, 2), logicals(0, 0, 0, 0, 2), missing(impl.KindText, 40), holed(append(distinct(39, 2), "-")...),
	}
	for _, v := range []impl.Vector{abc(numbers(7, 8, 9)), numbers(7), texts("x", "y"), logicals(1), factor(1, 2), listOf(numbers(1), listOf()), abc(listOf(numbers(1), impl.Vector{}, impl.Vector{})), listOf(make([]impl.Vector, 40)...)} {
		for _, s := range subscripts {
			for _, w := range []impl.Vector{numbers(5), {}, numbers(), listOf(), listOf(numbers(1)), function(1, 2), numbersUpTo(7), numbersUpTo(39), nested(numbers(1), 3)} {
				got, problem := impl.AssignSubset(v, s, w)
				checkProblem(t, fmt.Sprintf("%s of %s", fieldsOf(s), fieldsOf(v)), got, problem, missingSubscript)
				got, problem = impl.AssignElement(v, s, w)
				checkProblem(t, fmt.Sprintf("element %s of %s", fieldsOf(s), fieldsOf(v)), got, problem, outOfBounds)
			}
		}
	}
	for _, s := range []impl.Vector{missing(impl.KindNumber, 1), missing(impl.KindText, 2), gaps(1), logicals(2)} {
		got, problem := impl.AssignSubset(impl.Vector{}, s, numbers(5))
		checkProblem(t, "missing subscript of NULL", got, problem, missingSubscript)
	}
}

// TestReplacementsThatDoNotFit has all numbers of positions and all lengths of replacements.
func TestReplacementsThatDoNotFit(t *testing.T) {
	source := rand.New(rand.NewPCG(10, 1))
	for count := 1; count <= 40; count++ {
		s := numbersUpTo(count)
		for length := range 41 {
			want := ""
			switch {
			case length == 0:
				want = lengthZero
			case count%length != 0:
				want = unmatchedLengths
			}
			for kind := impl.KindLogical; kind <= impl.KindText; kind++ {
				w := randomOperand(source, kind, length)
				for _, v := range []impl.Vector{{}, numbersUpTo(source.IntN(41)), factor(1, 2, 3), listOf(numbers(1))} {
					_, problem := impl.AssignSubset(v, s, w)
					if problem != want {
						t.Errorf("%d elements for %d positions: %q, not %q", length, count, problem, want)
					}
					checkAssigned(t, v, s, w)
				}
			}
			checkAssigned(t, numbersUpTo(count), logicals(1), listOf(make([]impl.Vector, length)...))
			checkAssigned(t, listOf(), s, listOf(make([]impl.Vector, length)...))
		}
		for _, w := range emptyParts() {
			if w.Kind == impl.KindNull {
				continue
			}
			for _, v := range []impl.Vector{{}, numbers(1), factor(1), listOf(numbers(1)), texts()} {
				got, problem := impl.AssignSubset(v, s, w)
				checkProblem(t, "empty replacement "+fieldsOf(w), got, problem, lengthZero)
			}
		}
		// A function is one element, however many positions there are.
		got, problem := impl.AssignSubset(numbersUpTo(40), s, function(1, 2))
		parts := elementsByText(numbersUpTo(40))
		for i := range count {
			parts[i] = function(1, 2)
		}
		checkResult(t, "a function for many elements", got, problem, listOf(parts...))
	}
}

func TestAssignElementInWords(t *testing.T) {
	none := impl.Vector{}
	part := classed(named(factor(1, 2), "p", "q"), "c")
	list := abc(listOf(numbers(1), texts("x"), listOf()))
	checkElements(t, []assignment{
		{abc(numbers(7, 8, 9)), numbers(2), numbers(5), abc(numbers(7, 5, 9))},
		{abc(numbers(7, 8, 9)), texts("c"), texts("x"), abc(texts("7", "8", "x"))},
		{abc(numbers(7, 8, 9)), factor(3), logicals(2), abc(fractions(7, 1, 8, 1, 0, 0))},
		{numbers(7, 8), numbers(-1), numbers(5), numbers(7, 5)},
		{numbers(7), logicals(1), numbers(5), numbers(5)},
		{numbers(), logicals(1), numbers(5), numbers(5)},
		{numbers(7), numbers(1), named(classed(numbers(5), "c"), "n"), numbers(5)},
		{numbers(7), numbers(1), factor(3), texts("high")},
		{texts("x"), numbers(3), logicals(0), holed("x", "-", "FALSE")},

		// In a list the replacement is the part, with all that it has.
		{list, numbers(2), part, abc(listOf(numbers(1), part, listOf()))},
		{list, texts("c"), numbers(1, 2), abc(listOf(numbers(1), texts("x"), numbers(1, 2)))},
		{list, numbers(1), numbers(5), abc(listOf(numbers(5), texts("x"), listOf()))},
		{list, numbers(1), named(classed(numbers(5), "c"), "n"), abc(listOf(named(classed(numbers(5), "c"), "n"), texts("x"), listOf()))},
		{list, numbers(1), factor(3), abc(listOf(factor(3), texts("x"), listOf()))},
		{list, numbers(1), texts(), abc(listOf(texts(), texts("x"), listOf()))},
		{list, numbers(1), listOf(), abc(listOf(listOf(), texts("x"), listOf()))},
		{list, numbers(1), listOf(none), abc(listOf(listOf(none), texts("x"), listOf()))},
		{list, numbers(1), listOf(numbers(1), numbers(2)), abc(listOf(listOf(numbers(1), numbers(2)), texts("x"), listOf()))},
		{list, numbers(1), classed(function(1, 2), "c"), abc(listOf(classed(function(1, 2), "c"), texts("x"), listOf()))},
		{list, texts("z"), part, named(listOf(numbers(1), texts("x"), listOf(), part), "a", "b", "c", "z")},
		{list, numbers(5), part, named(listOf(numbers(1), texts("x"), listOf(), none, part), "a", "b", "c", "", "")},
		{classed(list, "d"), numbers(3), part, classed(abc(listOf(numbers(1), texts("x"), part)), "d")},
		{listOf(numbers(1)), logicals(1), part, listOf(part)},
		{listOf(numbers(1), numbers(2)), numbers(-1), part, listOf(numbers(1), part)},
		{listOf(none), numbers(1), part, listOf(part)},

		// NULL becomes what the replacement needs.
		{none, numbers(1), numbers(5), numbers(5)},
		{none, numbers(1), named(classed(numbers(5), "c"), "n"), numbers(5)},
		{none, numbers(1), factor(2), texts("mid")},
		{none, numbers(1), missing(impl.KindText, 1), missing(impl.KindText, 1)},
		{none, logicals(1), logicals(0), logicals(0)},
		{none, numbers(1), numbers(5, 6), listOf(numbers(5, 6))},
		{none, numbers(1), numbers(), listOf(numbers())},
		{none, numbers(1), factor(2, 1), listOf(factor(2, 1))},
		{none, numbers(1), factor(), listOf(factor())},
		{none, numbers(1), listOf(), listOf(listOf())},
		{none, numbers(1), listOf(numbers(5)), listOf(listOf(numbers(5)))},
		{none, numbers(1), function(1, 2), listOf(function(1, 2))},
		{none, numbers(1), none, listOf()},
		{none, numbers(7), none, listOf()},
		{none, texts("a"), none, listOf()},
		{none, logicals(1), none, listOf()},
	})
}

// TestAssignElementOutOfBounds has subscripts that do not select exactly one element, also together with replacements that are none.
func TestAssignElementOutOfBounds(t *testing.T) {
	v, two := abc(numbers(7, 8, 9)), named(numbers(7, 8), "a", "b")
	subscripts := []impl.Vector{
		{}, numbers(), logicals(), texts(), factor(), numbers(0), missing(impl.KindNumber, 1), missing(impl.KindLogical, 1), missing(impl.KindText, 1), factor(0),
		numbers(1, 2), numbers(2, 2), numbers(0, 2), numbers(2, 0), numbers(-1, -2), numbers(4, 5), texts("a", "b"), texts("a", "a"), texts("z", "z"), texts("z", "y"),
		logicals(0), logicals(2), logicals(0, 1), logicals(0, 0, 1), logicals(0, 0, 0, 1), numbers(-1), numbers(-40), logicals(1),
	}
	for _, w := range []impl.Vector{numbers(5), {}, numbers(), numbers(1, 2), listOf(), listOf(numbers(1)), function(1, 2), factor(1)} {
		for _, s := range subscripts {
			for _, v := range []impl.Vector{v, abc(texts("x", "y", "z")), abc(factor(1, 2, 3)), abc(listOf(numbers(1), numbers(2), numbers(3)))} {
				got, problem := impl.AssignElement(v, s, w)
				checkProblem(t, fmt.Sprintf("element %s of %s", fieldsOf(s), fieldsOf(v)), got, problem, outOfBounds)
				checkAssigned(t, v, s, w)
			}
		}
		for _, s := range []impl.Vector{logicals(1), logicals(1, 0), numbers(-3), numbers(-1, 0), numbers(-1, -1), numbers(3, 0)} {
			got, problem := impl.AssignElement(two, s, w)
			checkProblem(t, "element of two "+fieldsOf(s), got, problem, outOfBounds)
		}
		for _, s := range []impl.Vector{{}, numbers(0), numbers(-1), logicals(0), logicals(1, 0), numbers(1, 1), logicals(2)} {
			for _, v := range []impl.Vector{{}, numbers(), listOf(), factor()} {
				got, problem := impl.AssignElement(v, s, w)
				checkProblem(t, "element of none "+fieldsOf(s), got, problem, outOfBounds)
			}
		}
	}
}

func TestReplacementIsNotOneElement(t *testing.T) {
	for _, v := range []impl.Vector{numbers(7, 8), numbers(), texts("x"), texts(), logicals(2), factor(1, 2), factor(), named(numbers(1), "a"), classed(texts("x"), "c"), numbersUpTo(40)} {
		for _, w := range []impl.Vector{{}, numbers(), numbers(1, 2), texts(), texts("x", "y"), logicals(), factor(), factor(1, 2), listOf(), listOf(numbers(1)), listOf(numbers(1), numbers(2)), function(1, 2), numbersUpTo(40), nested(numbers(1), 3)} {
			for _, s := range []impl.Vector{numbers(1), numbers(40), texts("z"), texts("a"), factor(2)} {
				got, problem := impl.AssignElement(v, s, w)
				checkProblem(t, fmt.Sprintf("%s for an element of %s", fieldsOf(w), fieldsOf(v)), got, problem, notOneElement)
				checkAssigned(t, v, s, w)
			}
		}
	}
}

func TestAssignFieldInWords(t *testing.T) {
	none := impl.Vector{}
	part := classed(named(factor(1, 2), "p", "q"), "c")
	list := abc(listOf(numbers(1), texts("x"), none))
	for _, c := range []struct {
		v    impl.Vector
		name string
		w    impl.Vector
		want impl.Vector
	}{
		{list, "b", numbers(1, 2), abc(listOf(numbers(1), numbers(1, 2), none))},
		{list, "a", part, abc(listOf(part, texts("x"), none))},
		{list, "c", function(1, 2), abc(listOf(numbers(1), texts("x"), function(1, 2)))},
		{list, "a", listOf(), abc(listOf(listOf(), texts("x"), none))},
		{list, "a", listOf(numbers(5)), abc(listOf(listOf(numbers(5)), texts("x"), none))},
		{list, "a", factor(2), abc(listOf(factor(2), texts("x"), none))},
		{list, "z", part, named(listOf(numbers(1), texts("x"), none, part), "a", "b", "c", "z")},
		{list, "ab", numbers(5), named(listOf(numbers(1), texts("x"), none, numbers(5)), "a", "b", "c", "ab")},
		{list, "<NA>", numbers(5), named(listOf(numbers(1), texts("x"), none, numbers(5)), "a", "b", "c", "<NA>")},
		{list, bytesOf(60), numbers(5), named(listOf(numbers(1), texts("x"), none, numbers(5)), "a", "b", "c", bytesOf(60))},
		{list, "\x00\xff", numbers(5), named(listOf(numbers(1), texts("x"), none, numbers(5)), "a", "b", "c", "\x00\xff")},
		{classed(list, "d"), "b", numbers(5), classed(abc(listOf(numbers(1), numbers(5), none)), "d")},

		// A name that only begins so is another one, in contrast to FieldOf.
		{named(listOf(numbers(1)), "alpha"), "al", numbers(5), named(listOf(numbers(1), numbers(5)), "alpha", "al")},
		{named(listOf(numbers(1)), "alpha"), "al", none, named(listOf(numbers(1)), "alpha")},
		{named(listOf(numbers(1), numbers(2)), "alpha", "al"), "al", numbers(5), named(listOf(numbers(1), numbers(5)), "alpha", "al")},
		{named(listOf(numbers(1), numbers(2), numbers(3)), "b", "a", "a"), "a", numbers(5), named(listOf(numbers(1), numbers(5), numbers(3)), "b", "a", "a")},

		{listOf(numbers(1), numbers(2)), "a", numbers(5), named(listOf(numbers(1), numbers(2), numbers(5)), "", "", "a")},
		{listOf(), "a", numbers(5), named(listOf(numbers(5)), "a")},
		{classed(listOf(), "c"), "a", numbers(5), classed(named(listOf(numbers(5)), "a"), "c")},
		{none, "a", numbers(5), named(listOf(numbers(5)), "a")},
		{none, "a", named(classed(numbers(5), "c"), "n"), named(listOf(named(classed(numbers(5), "c"), "n")), "a")},
		{none, "a", factor(2), named(listOf(factor(2)), "a")},
		{none, "a", numbers(5, 6), named(listOf(numbers(5, 6)), "a")},
		{none, "a", function(1, 2), named(listOf(function(1, 2)), "a")},
		{none, "a", listOf(), named(listOf(listOf()), "a")},

		{list, "b", none, named(listOf(numbers(1), none), "a", "c")},
		{list, "c", none, named(listOf(numbers(1), texts("x")), "a", "b")},
		{list, "z", none, list},
		{named(listOf(numbers(1)), "a"), "a", none, listOf()},
		{classed(named(listOf(numbers(1), numbers(2)), "", "b"), "d"), "b", none, classed(listOf(numbers(1)), "d")},
		{named(listOf(numbers(1), numbers(2), numbers(3)), "b", "a", "a"), "a", none, named(listOf(numbers(1), numbers(3)), "b", "a")},
		{listOf(numbers(1)), "a", none, listOf(numbers(1))},
		{listOf(), "a", none, listOf()},
		{none, "a", none, listOf()},
	} {
		v, problem := impl.AssignField(c.v, c.name, c.w)
		checkResult(t, fmt.Sprintf("%s as field %q of %s", fieldsOf(c.w), c.name, fieldsOf(c.v)), v, problem, c.want)
		checkAssignedField(t, c.v, c.name, c.w)
	}
}

// TestProblemsOfAssignField has each problem alone and together with those behind it.
func TestProblemsOfAssignField(t *testing.T) {
	bad := []impl.Vector{numbers(1000000000), named(numbers(1), ""), numbersUpTo(41), factor(4), listOf(numbers(1000000000)), {Kind: 6}, function(-1000, 0), classed(impl.Vector{}, "a")}
	others := []impl.Vector{logicals(), numbers(), numbers(1), named(numbers(1), "a"), texts("a"), factor(1), function(1, 2), classed(numbers(1), "data.frame")}
	full := named(listOf(make([]impl.Vector, 40)...), namesOf(40)...)
	good := []impl.Vector{{}, listOf(), named(listOf(numbers(1)), "a"), full}
	replacements := []impl.Vector{numbers(5), {}, listOf(), numbers(1, 2), function(1, 2), nested(numbers(1), 3), listOfCells(200)}
	for _, name := range []string{"", "a", "z", bytesOf(60), bytesOf(61), bytesOf(100000)} {
		for _, w := range slices.Concat(replacements, bad) {
			for _, v := range slices.Concat(good, others, bad) {
				got, problem := impl.AssignField(v, name, w)
				about := fmt.Sprintf("field %.70q of %s", name, fieldsOf(v))
				switch {
				case faultOf(v) != "" || faultOf(w) != "":
					checkProblem(t, about, got, problem, invalidVector)
				case v.Kind != impl.KindNull && v.Kind != impl.KindList:
					checkProblem(t, about, got, problem, notList)
				case name == "" || len(name) > 60:
					checkProblem(t, about, got, problem, invalidNames)
				case depthByText(w) == 3 || cellsByText(w) == 200 || len(v.Parts) == 40 && w.Kind != impl.KindNull:
					checkProblem(t, about, got, problem, tooLarge)
				default:
					if problem != "" {
						t.Errorf("%s: %q", about, problem)
					}
				}
				checkAssignedField(t, v, name, w)
			}
		}
	}
	for length := range 70 {
		got, problem := impl.AssignField(listOf(), bytesOf(length), numbers(5))
		if length >= 1 && length <= 60 {
			checkResult(t, "a field with a long name", got, problem, named(listOf(numbers(5)), bytesOf(length)))
		} else {
			checkProblem(t, "a field without a name or with one too long", got, problem, invalidNames)
		}
	}
}

func TestAssignNamesInWords(t *testing.T) {
	none := impl.Vector{}
	for _, c := range []struct{ v, w, want impl.Vector }{
		{numbers(7, 8), texts("a", "b"), named(numbers(7, 8), "a", "b")},
		{numbers(7, 8), texts("a"), named(numbers(7, 8), "a", "")},
		{numbers(7, 8), texts("a", "a"), named(numbers(7, 8), "a", "a")},
		{numbers(7, 8), texts("", "b"), named(numbers(7, 8), "", "b")},
		{numbers(7, 8), holed("-", "b"), named(numbers(7, 8), "", "b")},
		{numbers(7, 8, 9), holed("a", "-"), named(numbers(7, 8, 9), "a", "", "")},
		{numbers(7, 8), texts(), numbers(7, 8)},
		{numbers(7, 8), none, numbers(7, 8)},
		{numbers(7, 8), texts(""), numbers(7, 8)},
		{numbers(7, 8), texts("", ""), numbers(7, 8)},
		{numbers(7, 8), holed("-", "-"), numbers(7, 8)},
		{numbers(7, 8), texts("<NA>", "NA"), named(numbers(7, 8), "<NA>", "NA")},
		{numbers(7, 8), texts("\x00\xff", bytesOf(60)), named(numbers(7, 8), "\x00\xff", bytesOf(60))},
		{numbers(7, 8), named(classed(texts("a", "b"), "c"), "p", "q"), named(numbers(7, 8), "a", "b")},
		{named(numbers(7, 8), "x", "y"), texts("a", "b"), named(numbers(7, 8), "a", "b")},
		{named(numbers(7, 8), "x", "y"), texts("a"), named(numbers(7, 8), "a", "")},
		{named(numbers(7, 8), "x", "y"), texts(), numbers(7, 8)},
		{named(numbers(7, 8), "x", "y"), none, numbers(7, 8)},
		{named(numbers(7, 8), "x", "y"), holed("-"), numbers(7, 8)},
		{texts("x"), texts("a"), named(texts("x"), "a")},
		{logicals(1, 2), texts("a", "b"), named(logicals(1, 2), "a", "b")},
		{classed(named(factor(1, 2), "x", "y"), "c", "d"), texts("a"), classed(named(factor(1, 2), "a", ""), "c", "d")},
		{listOf(numbers(1), none, function(1, 2)), texts("a", "b"), named(listOf(numbers(1), none, function(1, 2)), "a", "b", "")},
		{classed(listOf(named(numbers(1), "in")), "c"), texts("a"), classed(named(listOf(named(numbers(1), "in")), "a"), "c")},
		{classed(named(listOf(numbers(1)), "a"), "c"), none, classed(listOf(numbers(1)), "c")},
		{numbers(), texts(), numbers()},
		{numbers(), none, numbers()},
		{classed(listOf(), "c"), texts(), classed(listOf(), "c")},
		{numbersUpTo(40), texts(distinct(40, 60)...), named(numbersUpTo(40), distinct(40, 60)...)},
	} {
		v, problem := impl.AssignNames(c.v, c.w)
		checkResult(t, fmt.Sprintf("names %s of %s", fieldsOf(c.w), fieldsOf(c.v)), v, problem, c.want)
		checkAttributes(t, c.v, c.w)
	}
	for n := range 41 {
		for count := range 41 {
			v, problem := impl.AssignNames(numbersUpTo(n), texts(namesOf(count)...))
			switch {
			case count > n:
				checkProblem(t, "too many names", v, problem, invalidNames)
			case count == 0:
				checkResult(t, "no names", v, problem, numbersUpTo(n))
			default:
				checkResult(t, "names", v, problem, named(numbersUpTo(n), append(namesOf(count), make([]string, n-count)...)...))
			}
		}
	}
}

// notTexts returns vectors that are neither NULL nor text vectors.
func notTexts() []impl.Vector {
	return []impl.Vector{
		logicals(), logicals(1), logicals(2), numbers(), numbers(1), missing(impl.KindNumber, 1), factor(), factor(1), levelled(numbers(1), "a"), classed(numbers(1), "a"),
		listOf(), listOf(texts("a")), named(listOf(texts("a")), "a"), function(1, 2), classed(function(1, 2), "a"), named(numbers(1), "a"),
	}
}

func TestProblemsOfAssignNames(t *testing.T) {
	for _, v := range []impl.Vector{numbers(7, 8), named(texts("x"), "a"), logicals(), listOf(), abc(listOf(numbers(1), numbers(2), numbers(3))), factor(1, 2), numbersUpTo(40)} {
		for _, w := range notTexts() {
			got, problem := impl.AssignNames(v, w)
			checkProblem(t, "no names "+fieldsOf(w), got, problem, invalidNames)
		}
		for _, w := range []impl.Vector{holed(slices.Repeat([]string{"-"}, lengthByText(v)+1)...), texts(namesOf(lengthByText(v) + 1)...), texts(make([]string, lengthByText(v)+1)...)} {
			got, problem := impl.AssignNames(v, w)
			if lengthByText(w) <= 40 {
				checkProblem(t, "too many names", got, problem, invalidNames)
			} else {
				checkProblem(t, "more names than a vector may have", got, problem, invalidVector)
			}
		}
	}
	for _, v := range []impl.Vector{{}, function(1, 2), classed(function(0, 0), "c")} {
		for _, w := range append(notTexts(), impl.Vector{}, texts(), texts("a"), texts("a", "b"), missing(impl.KindText, 1)) {
			got, problem := impl.AssignNames(v, w)
			checkProblem(t, "names of no elements", got, problem, notElements)
		}
	}
}

// A labelCase is a text vector or NULL with the labels that it gives; a bad one is neither a class nor levels.
type labelCase struct {
	w      impl.Vector
	labels []string
	isBad  bool
}

func labelCases() []labelCase {
	return []labelCase{
		{texts("a"), []string{"a"}, false},
		{texts("square", "shape"), []string{"square", "shape"}, false},
		{texts("c", "b", "a"), []string{"c", "b", "a"}, false},
		{texts(distinct(3, 60)...), distinct(3, 60), false},
		{texts("\x00\xff", "NA", "<NA>"), []string{"\x00\xff", "NA", "<NA>"}, false},
		{named(classed(texts("a", "b"), "c"), "p", "q"), []string{"a", "b"}, false},
		{texts(), nil, false},
		{classed(texts(), "c"), nil, false},
		{impl.Vector{}, nil, false},
		{texts("a", "a"), nil, true},
		{texts("a", "b", "a"), nil, true},
		{texts(""), nil, true},
		{texts("a", ""), nil, true},
		{holed("-"), nil, true},
		{holed("a", "-"), nil, true},
		{holed("-", "a"), nil, true},
		{holed("-", "-"), nil, true},
		{holed("a", "-", "a"), nil, true},
	}
}

func TestAssignClass(t *testing.T) {
	for _, s := range ordinaryVectors() {
		v := s.vector
		for _, c := range labelCases() {
			got, problem := impl.AssignClass(v, c.w)
			name := fmt.Sprintf("class %s of %s", fieldsOf(c.w), s.name)
			if c.isBad || v.Kind == impl.KindNull && len(c.labels) > 0 {
				checkProblem(t, name, got, problem, invalidClass)
			} else {
				checkResult(t, name, got, problem, classed(v, c.labels...))
			}
			checkAttributes(t, v, c.w)
		}
		for count := range 41 {
			got, problem := impl.AssignClass(v, texts(namesOf(count)...))
			if count > 3 || v.Kind == impl.KindNull && count > 0 {
				checkProblem(t, fmt.Sprintf("%d classes of %s", count, s.name), got, problem, invalidClass)
			} else {
				checkResult(t, fmt.Sprintf("%d classes of %s", count, s.name), got, problem, classed(v, namesOf(count)...))
			}
		}
		for _, w := range notTexts() {
			got, problem := impl.AssignClass(v, w)
			checkProblem(t, "no class "+fieldsOf(w), got, problem, invalidClass)
		}
	}
	list := classed(abc(listOf(classed(numbers(1), "in"), texts("x"), listOf())), "c")
	v, problem := impl.AssignClass(list, impl.Vector{})
	checkResult(t, "class of a list removed", v, problem, withoutClass(list))
	v, problem = impl.AssignClass(factor(1, 2), impl.Vector{})
	checkResult(t, "class of a factor removed", v, problem, withoutClass(factor(1, 2)))
}

func TestAssignLevels(t *testing.T) {
	for _, s := range ordinaryVectors() {
		v := s.vector
		for _, c := range labelCases() {
			checkAttributes(t, v, c.w)
		}
		for _, w := range notTexts() {
			got, problem := impl.AssignLevels(v, w)
			checkProblem(t, "no levels "+fieldsOf(w), got, problem, invalidLevels)
		}
		// Without strings there are no levels, which every kind may have.
		for _, w := range []impl.Vector{{}, texts(), classed(texts(), "c")} {
			got, problem := impl.AssignLevels(v, w)
			checkResult(t, "levels removed from "+s.name, got, problem, levelled(v))
		}
		if v.Kind != impl.KindNumber {
			got, problem := impl.AssignLevels(v, texts("a", "b", "c"))
			checkProblem(t, "levels of "+s.name, got, problem, invalidLevels)
		}
	}
	for _, c := range labelCases() {
		for _, v := range []impl.Vector{numbers(), missing(impl.KindNumber, 2), classed(named(missing(impl.KindNumber, 1), "a"), "c"), levelled(numbers(), "z", "y"), factor(0, 0)} {
			got, problem := impl.AssignLevels(v, c.w)
			if c.isBad {
				checkProblem(t, "levels "+fieldsOf(c.w), got, problem, invalidLevels)
			} else {
				checkResult(t, "levels "+fieldsOf(c.w), got, problem, levelled(v, c.labels...))
			}
		}
	}
	// The codes must be those of the levels.
	for count := range 41 {
		for code := -2; code <= 41; code++ {
			for _, v := range []impl.Vector{numbers(code), fractions(code, 1, 0, 0), named(classed(numbers(code, 1), "c"), "a", "b")} {
				got, problem := impl.AssignLevels(v, texts(namesOf(count)...))
				switch {
				case count == 0:
					checkResult(t, "no levels", got, problem, v)
				case count > 20 || code < 1 || code > count:
					checkProblem(t, fmt.Sprintf("%d levels of %s", count, fieldsOf(v)), got, problem, invalidLevels)
				default:
					checkResult(t, fmt.Sprintf("%d levels of %s", count, fieldsOf(v)), got, problem, levelled(v, namesOf(count)...))
				}
			}
		}
	}
	for _, c := range []struct{ v, w, want impl.Vector }{
		{factor(1, 2), texts("u", "v"), classed(levelled(numbers(1, 2), "u", "v"), "factor")},
		{factor(1, 2), texts("high", "mid", "low", "none"), classed(levelled(numbers(1, 2), "high", "mid", "low", "none"), "factor")},
		{factor(1, 2), impl.Vector{}, classed(numbers(1, 2), "factor")},
		{named(factor(3, 0), "a", "b"), texts("x", "y", "z"), named(classed(levelled(fractions(3, 1, 0, 0), "x", "y", "z"), "factor"), "a", "b")},
	} {
		got, problem := impl.AssignLevels(c.v, c.w)
		checkResult(t, "levels "+fieldsOf(c.w), got, problem, c.want)
	}
	for _, v := range []impl.Vector{fractions(1, 2), fractions(1, 1, 3, 2), factor(1, 3)} {
		got, problem := impl.AssignLevels(v, texts("a", "b"))
		checkProblem(t, "levels that do not suit "+fieldsOf(v), got, problem, invalidLevels)
	}
}

// TestAssignmentsAtTheLimits has results of MaxLength elements and of more.
func TestAssignmentsAtTheLimits(t *testing.T) {
	for n := range 41 {
		for count := 1; count <= 40; count++ {
			unknown := texts(distinct(count, 2)...)
			for _, v := range []impl.Vector{numbersUpTo(n), listOf(make([]impl.Vector, n)...), named(numbersUpTo(n), namesOf(n)...)} {
				got, problem := impl.AssignSubset(v, unknown, numbers(5))
				if n+count > 40 {
					checkProblem(t, fmt.Sprintf("%d names beside %d elements", count, n), got, problem, tooLarge)
				} else if problem != "" || lengthByText(got) != n+count {
					t.Errorf("%d names beside %d elements: %d and %q", count, n, lengthByText(got), problem)
				}
			}
		}
	}
	for _, w := range []impl.Vector{numbers(5), texts("x"), listOf(numbers(1)), function(1, 2)} {
		for _, v := range []impl.Vector{numbersUpTo(40), named(texts(distinct(40, 2)...), namesOf(40)...), listOf(make([]impl.Vector, 40)...)} {
			checkAssigned(t, v, texts("z"), w)
			checkAssigned(t, v, numbers(40), w)
			checkAssigned(t, v, texts(namesOf(40)...), w)
			checkAssigned(t, v, texts("z", "000", "z"), w)
			got, problem := impl.AssignSubset(v, texts("z"), w)
			checkProblem(t, "an element behind 40", got, problem, tooLarge)
		}
	}
	full := listOf(make([]impl.Vector, 40)...)
	for _, w := range []impl.Vector{numbers(5), numbers(1, 2), listOf(), function(1, 2)} {
		got, problem := impl.AssignElement(full, texts("z"), w)
		checkProblem(t, "a part behind 40", got, problem, tooLarge)
		got, problem = impl.AssignField(full, "z", w)
		checkProblem(t, "a field behind 40", got, problem, tooLarge)
	}
	got, problem := impl.AssignElement(numbersUpTo(40), texts("z"), numbers(5))
	checkProblem(t, "a number behind 40", got, problem, tooLarge)
	got, problem = impl.AssignField(full, "z", impl.Vector{})
	checkResult(t, "no field behind 40", got, problem, full)
	got, problem = impl.AssignSubset(impl.Vector{}, texts(distinct(40, 60)...), numbersUpTo(40))
	checkResult(t, "40 new names", got, problem, named(numbersUpTo(40), distinct(40, 60)...))
	forty := levelled(numbersUpTo(20), distinct(20, 60)...)
	got, problem = impl.AssignSubset(forty, numbers(numbered(21, 40)...), forty)
	checkResult(t, "40 codes", got, problem, levelled(numbers(slices.Repeat(numbered(1, 20), 2)...), distinct(20, 60)...))
}

// TestCellsOfAssignments has results of as many cells as a vector may have, and of one more.
func TestCellsOfAssignments(t *testing.T) {
	for _, before := range []int{1, 2, 50, 160, 198, 199, 200} {
		v := listOfCells(before)
		n := len(v.Parts)
		for cells := 1; cells <= 41; cells++ {
			part := numbersUpTo(cells - 1)
			isTooLarge := cellsByText(v)+cells > 200
			for name, assign := range map[string]func() (impl.Vector, string){
				"subset":  func() (impl.Vector, string) { return impl.AssignSubset(v, numbers(n+1), listOf(part)) },
				"names":   func() (impl.Vector, string) { return impl.AssignSubset(v, texts("z", "z"), listOf(numbers(1), part)) },
				"element": func() (impl.Vector, string) { return impl.AssignElement(v, numbers(n+1), part) },
				"field":   func() (impl.Vector, string) { return impl.AssignField(v, "z", part) },
			} {
				got, problem := assign()
				if isTooLarge {
					checkProblem(t, fmt.Sprintf("%s: %d cells behind %d", name, cells, before), got, problem, tooLarge)
				} else if problem != "" || cellsByText(got) != cellsByText(v)+cells {
					t.Errorf("%s: %d cells behind %d: %d and %q", name, cells, before, cellsByText(got), problem)
				}
			}
			checkAssigned(t, v, numbers(n), listOf(part))
			checkAssigned(t, v, numbers(n), part)
			checkAssigned(t, v, numbers(1, n+1, n+2, n+1), listOf(part))
		}
	}
	// Missing parts in between are cells too.
	for position := 6; position <= 40; position++ {
		checkAssigned(t, listOfCells(170), numbers(position), numbers(5))
		checkAssigned(t, listOfCells(170), numbers(position), listOf(impl.Vector{}))
	}
	// An atomic vector has twice as many cells as a list.
	for cells := 100; cells <= 130; cells++ {
		checkAssigned(t, numbersUpTo(39), numbers(40), listOf(listOfCells(cells)))
		checkAssigned(t, numbersUpTo(40), numbers(40), listOf(listOfCells(cells)))
	}
	got, problem := impl.AssignSubset(numbersUpTo(39), numbers(40), listOf(listOfCells(121)))
	if problem != "" || cellsByText(got) != 200 {
		t.Errorf("39 numbers in a list: %q", problem)
	}
	got, problem = impl.AssignSubset(numbersUpTo(39), numbers(40), listOf(listOfCells(122)))
	checkProblem(t, "39 numbers in a list", got, problem, tooLarge)
}

// TestDepthOfAssignments has parts that make a list too deep.
func TestDepthOfAssignments(t *testing.T) {
	for _, inner := range []impl.Vector{numbersUpTo(2), {}, listOf(), function(1, 2)} {
		for depth := range 4 {
			w := nested(inner, depth)
			for _, v := range []impl.Vector{listOf(), listOf(numbers(1)), named(nested(numbers(1), 3), "a"), {}} {
				for _, s := range []impl.Vector{numbers(1), numbers(2), texts("a")} {
					checkAssigned(t, v, s, w)
				}
				checkAssignedField(t, v, "a", w)
				if depth == 3 {
					got, problem := impl.AssignElement(v, numbers(1), w)
					checkProblem(t, "a part of depth 3", got, problem, tooLarge)
					got, problem = impl.AssignField(v, "a", w)
					checkProblem(t, "a field of depth 3", got, problem, tooLarge)
					got, problem = impl.AssignSubset(v, numbers(1), w)
					if problem != "" || depthByText(got) != 3 {
						t.Errorf("parts of a list of depth 3: %q", problem)
					}
				}
			}
		}
	}
}

// conditionsOf returns all problems of AssignSubset that its arguments have, each looked at by itself, in the order of the document.
func conditionsOf(v impl.Vector, s impl.Vector, w impl.Vector) []string {
	positions, problem := resolveByText(min(lengthByText(v), 40), v.Names, s)
	count := lengthByText(w)
	isDeletion := v.Kind == impl.KindList && w.Kind == impl.KindNull
	largestPosition := slices.Max(append(positions, 0))
	var problems []string
	for _, c := range []struct {
		problem string
		holds   bool
	}{
		{invalidVector, faultOf(v) != "" || faultOf(w) != ""},
		{notElements, v.Kind == impl.KindFunction},
		{problem, problem != ""},
		{missingSubscript, slices.Contains(positions, 0)},
		{lengthZero, count == 0 && len(positions) > 0 && !isDeletion},
		{unmatchedLengths, count > 0 && len(positions)%count != 0},
		{notAtomic, len(v.Levels) > 0 && w.Kind >= impl.KindList && len(positions) > 0},
		{tooLarge, largestPosition > 40 && !isDeletion},
	} {
		if c.holds {
			problems = append(problems, c.problem)
		}
	}
	return problems
}

// TestProblemsOfAssignSubset has each problem alone and together with each other one that it can stand beside: the first one counts.
func TestProblemsOfAssignSubset(t *testing.T) {
	bad := []impl.Vector{numbers(1000000000), factor(4), listOf(vectorOf(impl.KindLogical, whole(2))), function(-1000, 0)}
	vectors := append(bad, function(1, 2), classed(function(0, 0), "c"), impl.Vector{}, numbers(7, 8), abc(texts("x", "y", "z")), logicals(), factor(1, 2), factor(), listOf(), abc(listOf(numbers(1), texts("x"), listOf())),
		named(numbersUpTo(40), namesOf(40)...), named(factor(slices.Repeat([]int{1}, 40)...), namesOf(40)...), listOf(make([]impl.Vector, 40)...))
	replacements := append(bad, impl.Vector{}, numbers(), listOf(), numbers(5), numbers(5, 6), texts("low"), listOf(numbers(1)), listOf(numbers(1), texts("x")), numbersUpTo(3), numbersUpTo(40), function(1, 2), factor(2))
	subscripts := []impl.Vector{
		{}, numbers(), numbers(1), numbers(1, 2), numbers(2, 1, 2), logicals(1), texts("z"), texts("z", "y"), texts("z", "y", "x"), numbersUpTo(40), gaps(1), missing(impl.KindText, 1),
		holed("z", "-"), holed("z", "y", "-"), holed("-", "z", "000", "y"), numbers(1, -1), numbers(41), texts("z", ""), listOf(), function(1, 2), numbers(1000000000), texts(bytesOf(61)),
	}
	alone, pairs := map[string]int{}, map[string]int{}
	for _, v := range vectors {
		for _, s := range subscripts {
			for _, w := range replacements {
				problems := conditionsOf(v, s, w)
				got, problem := impl.AssignSubset(v, s, w)
				name := fmt.Sprintf("%s at %s of %s", fieldsOf(w), fieldsOf(s), fieldsOf(v))
				if len(problems) == 0 {
					if problem != "" || !impl.IsVector(got) {
						t.Errorf("%s: %q", name, problem)
					}
					continue
				}
				checkProblem(t, name, got, problem, problems[0])
				countProblems(alone, pairs, problems)
			}
		}
	}
	checkCombinations(t, alone, pairs)
}

// countProblems counts the problem of one call if it is alone, and otherwise each two of its problems.
func countProblems(alone map[string]int, pairs map[string]int, problems []string) {
	if len(problems) == 1 {
		alone[problems[0]]++
	}
	for i, first := range problems {
		for _, second := range problems[i+1:] {
			pairs[first+", "+second]++
		}
	}
}

// checkCombinations checks that the problems have been there alone and in pairs, except in those pairs that cannot be.
func checkCombinations(t *testing.T, alone map[string]int, pairs map[string]int) {
	t.Helper()
	list := []string{invalidVector, notElements, outOfBounds, invalidSubscript, missingSubscript, lengthZero, unmatchedLengths, notAtomic, tooLarge}
	never := []string{
		// A vector with invalid fields may be that of a function too, but a function has no names, levels or many elements.
		notElements + ", " + tooLarge, notElements + ", " + notAtomic,
		outOfBounds + ", " + invalidSubscript, lengthZero + ", " + unmatchedLengths,
	}
	for _, problem := range []string{outOfBounds, invalidSubscript} {
		// Without positions none of the later problems is there.
		for _, later := range list[4:] {
			never = append(never, problem+", "+later)
		}
	}
	for i, first := range list {
		if alone[first] == 0 {
			t.Errorf("%q is never alone", first)
		}
		for _, second := range list[i+1:] {
			pair := first + ", " + second
			if isThere := pairs[pair] > 0; isThere == slices.Contains(never, pair) {
				t.Errorf("%q: %d times", pair, pairs[pair])
			}
		}
	}
}

// TestProblemsOfAssignElement has problems of the vector and of the subscript, together with those behind them.
func TestProblemsOfAssignElement(t *testing.T) {
	good := []impl.Vector{{}, numbers(1), abc(numbers(7, 8, 9)), texts(), factor(1, 2), listOf(), abc(listOf(numbers(1), impl.Vector{}, listOf())), numbersUpTo(40)}
	replacements := []impl.Vector{numbers(5), {}, numbers(), numbers(5, 6), listOf(), listOf(numbers(1)), function(1, 2), factor(1), nested(numbers(1), 3)}
	for _, w := range replacements {
		for _, c := range badSubscripts() {
			for _, v := range good {
				got, problem := impl.AssignElement(v, c.s, w)
				checkProblem(t, fmt.Sprintf("element %s of %s", fieldsOf(c.s), fieldsOf(v)), got, problem, c.want)
				got, problem = impl.AssignSubset(v, c.s, w)
				checkProblem(t, fmt.Sprintf("subset %s of %s", fieldsOf(c.s), fieldsOf(v)), got, problem, c.want)
			}
			for _, v := range []impl.Vector{function(1, 1), classed(function(0, 0), "c")} {
				got, problem := impl.AssignElement(v, c.s, w)
				checkProblem(t, "element of a function", got, problem, notElements)
				got, problem = impl.AssignSubset(v, c.s, w)
				checkProblem(t, "subset of a function", got, problem, notElements)
			}
		}
		for _, s := range []impl.Vector{numbers(1), {}, numbers(1, 2), missing(impl.KindNumber, 1), texts("z")} {
			got, problem := impl.AssignElement(function(1, 1), s, w)
			checkProblem(t, "element of a function", got, problem, notElements)
		}
	}
}

// TestAssignmentsOfInvalidVectors has invalid vectors in each place, also lists that contain themselves.
func TestAssignmentsOfInvalidVectors(t *testing.T) {
	for _, bad := range invalidVectors() {
		b := bad.vector
		check := func(got impl.Vector, problem string) {
			t.Helper()
			checkProblem(t, bad.name, got, problem, invalidVector)
		}
		for _, good := range []impl.Vector{{}, numbers(1), texts("a"), logicals(1), listOf(numbers(1)), numbers(1, 2), function(1, 2)} {
			for _, s := range []impl.Vector{numbers(1), {}, numbers(1, -1), missing(impl.KindText, 1), function(1, 2), b} {
				check(impl.AssignSubset(b, s, good))
				check(impl.AssignSubset(good, s, b))
				check(impl.AssignSubset(b, s, b))
				check(impl.AssignElement(b, s, good))
				check(impl.AssignElement(good, s, b))
				check(impl.AssignElement(b, s, b))
			}
			for _, name := range []string{"a", "", bytesOf(61)} {
				check(impl.AssignField(b, name, good))
				check(impl.AssignField(good, name, b))
				check(impl.AssignField(b, name, b))
			}
			for _, assign := range []func(v impl.Vector, w impl.Vector) (impl.Vector, string){impl.AssignNames, impl.AssignClass, impl.AssignLevels} {
				check(assign(b, good))
				check(assign(good, b))
				check(assign(b, b))
			}
			if good.Kind != impl.KindFunction {
				check(impl.AssignSubset(good, b, good))
				check(impl.AssignElement(good, b, good))
				check(impl.AssignSubset(good, b, impl.Vector{}))
			}
		}
		got, problem := impl.AssignSubset(function(1, 1), b, numbers(1))
		checkProblem(t, "a function and "+bad.name, got, problem, notElements)
		got, problem = impl.AssignElement(function(1, 1), b, numbers(1))
		checkProblem(t, "a function and "+bad.name, got, problem, notElements)
	}
}

// TestAssignmentsOfSamples has each kind of subscript on each kind of vector, with each kind of replacement.
func TestAssignmentsOfSamples(t *testing.T) {
	replacements := []impl.Vector{{}, numbers(5), fractions(1, 2, 0, 0), texts("low"), holed("-", "x"), logicals(2), factor(3, 0), named(classed(numbers(1), "c"), "n"), listOf(), listOf(impl.Vector{}, texts("x")), function(1, 2)}
	for _, s := range ordinaryVectors() {
		for _, subscript := range subscriptsOf(lengthByText(s.vector), s.vector.Names) {
			for _, w := range replacements {
				checkAssigned(t, s.vector, subscript, w)
			}
		}
		for _, other := range ordinaryVectors() {
			checkAssigned(t, s.vector, numbers(1), other.vector)
			checkAssigned(t, s.vector, other.vector, numbers(5))
			checkAssigned(t, s.vector, texts("a", "z"), other.vector)
			for _, name := range append(slices.Clone(s.vector.Names), "a", "n", "", "z") {
				checkAssignedField(t, s.vector, name, other.vector)
			}
			checkAttributes(t, s.vector, other.vector)
		}
	}
}

// randomReplacement returns a replacement for so many positions, most of them with a length that fits.
func randomReplacement(source *rand.Rand, count int) impl.Vector {
	length := []int{1, count, source.IntN(count + 2)}[source.IntN(3)]
	switch source.IntN(6) {
	case 0:
		return randomVector(source, source.IntN(6), 5, 2)
	case 1:
		w := listOf()
		for range length {
			w.Parts = append(w.Parts, randomVector(source, source.IntN(6), 2, 1))
		}
		return w
	}
	return randomOperand(source, source.IntN(3)+1, length)
}

func TestAssignmentsOfRandomVectors(t *testing.T) {
	source := rand.New(rand.NewPCG(10, 2))
	counts := map[string]int{}
	for range 40000 {
		v := randomVector(source, source.IntN(6), 8, 3)
		s := randomSubscript(source, lengthByText(v), v.Names)
		positions, _ := resolveByText(lengthByText(v), v.Names, s)
		w := randomReplacement(source, len(positions))
		if len(v.Levels) > 0 && source.IntN(2) == 0 {
			w = texts([]string{"low", "mid", "high", "none"}[source.IntN(4)])
		}
		checkAssigned(t, v, s, w)
		_, problem := impl.AssignSubset(v, s, w)
		counts[problem]++
		checkAssignedField(t, v, slices.Concat(v.Names, []string{"a", "x", "i", ""})[source.IntN(len(v.Names)+4)], w)
		checkAttributes(t, v, randomOperand(source, source.IntN(3)+1, source.IntN(4)))
	}
	for _, problem := range []string{"", notElements, invalidSubscript, missingSubscript, lengthZero, unmatchedLengths, notAtomic} {
		if counts[problem] < 50 || counts[""] < 10000 {
			t.Errorf("too few results of a kind: %v", counts)
		}
	}
}

// somePositions returns different positions from 1 to n in a random order.
func somePositions(source *rand.Rand, n int) []int {
	list := numbered(1, n)
	source.Shuffle(n, func(i int, k int) { list[i], list[k] = list[k], list[i] })
	return list[:source.IntN(n+1)]
}

// plainOf returns the elements of a vector as others take them, by the functions of the chapters before.
func plainOf(t *testing.T, v impl.Vector) impl.Vector {
	t.Helper()
	if len(v.Levels) > 0 {
		return arranged(t, v)(impl.SubsetOf(impl.TextVector(v.Levels), withoutNames(v)))
	}
	return withoutNames(withoutClass(v))
}

// elementIn returns element i of v as it stands in a vector of the kind; beyond the length it is missing.
func elementIn(t *testing.T, v impl.Vector, i int, kind int) impl.Vector {
	t.Helper()
	switch {
	case v.Kind == impl.KindFunction:
		return v
	case i < 0 || i >= lengthByText(v):
		return arranged(t, v)(impl.ElementOf(arranged(t, v)(impl.SubsetOf(vectorOf(kind), numbers(1))), numbers(1)))
	}
	element := arranged(t, v)(impl.ElementOf(plainOf(t, v), numbers(i+1)))
	if kind == impl.KindList {
		return element
	}
	coerced, ok := impl.CoerceVector(element, kind)
	if !ok {
		t.Errorf("%s cannot be of kind %d", fieldsOf(element), kind)
	}
	return coerced
}

// TestWhatIsAssignedIsThere has different positions: their elements are the new ones, and all others are as before.
func TestWhatIsAssignedIsThere(t *testing.T) {
	source := rand.New(rand.NewPCG(10, 3))
	count := 0
	for range 6000 {
		v := randomVector(source, source.IntN(5), 8, 2)
		positions := somePositions(source, lengthByText(v)+3)
		w := randomReplacement(source, len(positions))
		if len(w.Parts)+len(w.Items) == 0 && w.Kind != impl.KindFunction || len(positions)%lengthByText(w) != 0 || len(v.Levels) > 0 {
			continue
		}
		r, problem := impl.AssignSubset(v, numbers(positions...), w)
		if problem == tooLarge {
			continue
		}
		name := fmt.Sprintf("%s at %v of %s", fieldsOf(w), positions, fieldsOf(v))
		if problem != "" || len(positions) > 0 && lengthByText(r) != max(lengthByText(v), slices.Max(positions)) {
			t.Errorf("%s: %d elements and %q", name, lengthByText(r), problem)
		}
		for i := range lengthByText(r) {
			got := elementIn(t, r, i, r.Kind)
			if k := slices.Index(positions, i+1); k >= 0 {
				checkVector(t, name, got, elementIn(t, w, k%lengthByText(w), r.Kind))
			} else {
				checkVector(t, name, got, elementIn(t, v, i, r.Kind))
			}
		}
		checkSameAttributes(t, name, r, v)
		count++
	}
	if count < 3000 {
		t.Errorf("only %d assignments", count)
	}
}

// checkSameAttributes checks that r has the class and the levels of v, its names, and no others.
func checkSameAttributes(t *testing.T, name string, r impl.Vector, v impl.Vector) {
	t.Helper()
	names := v.Names
	if len(names) > 0 {
		names = append(slices.Clone(names), make([]string, lengthByText(r)-lengthByText(v))...)
	}
	if !slices.Equal(r.Names, names) || !slices.Equal(r.Class, v.Class) || !slices.Equal(r.Levels, v.Levels) {
		t.Errorf("%s: names %q, class %q and levels %q", name, r.Names, r.Class, r.Levels)
	}
}

// TestWhatIsAssignedToLevelsIsThere compares the strings of the elements.
func TestWhatIsAssignedToLevelsIsThere(t *testing.T) {
	source := rand.New(rand.NewPCG(10, 4))
	for range 3000 {
		v := withCodes(source, randomOperand(source, impl.KindNumber, source.IntN(8)))
		positions := append(somePositions(source, len(v.Items)+2), len(v.Items)+3)
		w := holed()
		for range positions {
			w.Items = append(w.Items, holed([]string{"low", "mid", "high", "none", "-", ""}[source.IntN(6)]).Items...)
		}
		if source.IntN(2) == 0 {
			w = withCodes(source, randomOperand(source, impl.KindNumber, len(positions)))
			w.Levels = [][]string{{"high", "low", "x"}, {"low", "mid", "high"}, {"x", "y", "mid"}}[source.IntN(3)]
		}
		r := arranged(t, v)(impl.AssignSubset(v, numbers(positions...), w))
		old, strings, after := plainOf(t, v), plainOf(t, w), plainOf(t, r)
		for i, x := range after.Items {
			want := missingItem()
			if k := slices.Index(positions, i+1); k >= 0 {
				want = strings.Items[k]
			} else if i < len(old.Items) {
				want = old.Items[i]
			}
			if !slices.Contains(v.Levels, want.Text) {
				want = missingItem()
			}
			if x != want {
				t.Errorf("%s at %v of %s: %v, not %v", fieldsOf(w), positions, fieldsOf(v), x, want)
			}
		}
		checkSameAttributes(t, fieldsOf(v), r, v)
	}
}

// TestAssigningWhatIsThere changes nothing, by each kind of subscript and for each attribute.
func TestAssigningWhatIsThere(t *testing.T) {
	source := rand.New(rand.NewPCG(10, 5))
	var list []impl.Vector
	for _, s := range ordinaryVectors() {
		list = append(list, s.vector)
	}
	for range 4000 {
		list = append(list, randomVector(source, source.IntN(5), 8, 3))
	}
	for _, v := range list {
		checkAttributesThatAreThere(t, v)
		if v.Kind == impl.KindFunction {
			continue
		}
		n := lengthByText(v)
		positions := somePositions(source, n)
		flags := slices.Repeat([]int{0}, n)
		for _, position := range positions {
			flags[position-1] = 1
		}
		subscripts := []impl.Vector{numbers(positions...), logicals(flags...), {}, numbers(0), texts(slices.DeleteFunc(slices.Clone(v.Names), func(s string) bool { return s == "" })...)}
		if n > 0 {
			subscripts = append(subscripts, numbers(-source.IntN(n)-1), logicals(1))
		}
		resultOf := arranged(t, v)
		for _, s := range subscripts {
			checkVector(t, fieldsOf(s), resultOf(impl.AssignSubset(v, s, resultOf(impl.SubsetOf(v, s)))), v)
		}
		for i := range n {
			checkElementThatIsThere(t, v, i)
		}
	}
}

// checkElementThatIsThere leaves out NULL, which takes its part out of a list.
func checkElementThatIsThere(t *testing.T, v impl.Vector, i int) {
	t.Helper()
	resultOf := arranged(t, v)
	element := resultOf(impl.ElementOf(v, numbers(i+1)))
	if element.Kind == impl.KindNull {
		return
	}
	checkVector(t, "element", resultOf(impl.AssignElement(v, numbers(i+1), element)), v)
	if len(v.Names) > 0 && v.Names[i] != "" {
		name := v.Names[i]
		first := resultOf(impl.ElementOf(v, texts(name)))
		if first.Kind != impl.KindNull {
			checkVector(t, "element by its name", resultOf(impl.AssignElement(v, texts(name), first)), v)
		}
		if field, problem := impl.FieldOf(v, name); problem == "" && field.Kind != impl.KindNull {
			checkVector(t, "field", resultOf(impl.AssignField(v, name, field)), v)
		}
	}
}

// checkAttributesThatAreThere also takes them away and puts them back.
func checkAttributesThatAreThere(t *testing.T, v impl.Vector) {
	t.Helper()
	resultOf := arranged(t, v)
	none := impl.Vector{}
	class, levels, names := impl.TextVector(v.Class), impl.TextVector(v.Levels), impl.TextVector(v.Names)
	checkVector(t, "class", resultOf(impl.AssignClass(v, class)), v)
	checkVector(t, "levels", resultOf(impl.AssignLevels(v, levels)), v)
	checkVector(t, "class put back", resultOf(impl.AssignClass(resultOf(impl.AssignClass(v, none)), class)), v)
	checkVector(t, "levels put back", resultOf(impl.AssignLevels(resultOf(impl.AssignLevels(v, none)), levels)), v)
	if v.Kind != impl.KindNull && v.Kind != impl.KindFunction {
		checkVector(t, "names", resultOf(impl.AssignNames(v, names)), v)
		checkVector(t, "names put back", resultOf(impl.AssignNames(resultOf(impl.AssignNames(v, none)), names)), v)
	}
}

// TestSubscriptsAssignTheSame has one set of positions in each of the four forms: logical, numeric, negative and text.
func TestSubscriptsAssignTheSame(t *testing.T) {
	source := rand.New(rand.NewPCG(10, 6))
	for range 3000 {
		v := randomVector(source, source.IntN(4)+1, 10, 2)
		n := lengthByText(v)
		v.Names = distinct(n, 4)
		chosen, others, flags, names := numbers(), numbers(-n-1), logicals(), texts()
		for i := range n {
			isChosen := source.IntN(3) > 0
			flags.Items = append(flags.Items, truth(isChosen))
			if isChosen {
				chosen.Items = append(chosen.Items, whole(i+1))
				names.Items = append(names.Items, word(v.Names[i]))
			} else {
				others.Items = append(others.Items, whole(-i-1))
			}
		}
		w := randomReplacement(source, len(chosen.Items))
		want, wantedProblem := impl.AssignSubset(v, chosen, w)
		for _, s := range []impl.Vector{flags, others, names} {
			got, problem := impl.AssignSubset(v, s, w)
			checkOutcome(t, fmt.Sprintf("%s at %s of %s", fieldsOf(w), fieldsOf(s), fieldsOf(v)), got, problem, want, wantedProblem)
		}
	}
}

// TestAssignmentsFitTogether compares assignments with others, and with subsets.
func TestAssignmentsFitTogether(t *testing.T) {
	source := rand.New(rand.NewPCG(10, 7))
	for range 4000 {
		v := randomVector(source, source.IntN(5), 8, 2)
		resultOf := arranged(t, v)
		n := lengthByText(v)
		positions := somePositions(source, n+2)
		cut := source.IntN(len(positions) + 1)
		w := randomOperand(source, source.IntN(3)+1, len(positions))
		part := func(from int, to int) impl.Vector {
			return resultOf(impl.SubsetOf(w, numbers(numbered(from+1, to)...)))
		}
		first, second := positions[:cut], positions[cut:]
		whole := resultOf(impl.AssignSubset(v, numbers(positions...), w))
		steps := resultOf(impl.AssignSubset(v, numbers(first...), part(0, cut)))
		checkVector(t, "two steps", resultOf(impl.AssignSubset(steps, numbers(second...), part(cut, len(positions)))), whole)
		other := randomOperand(source, w.Kind, len(positions))
		twice := resultOf(impl.AssignSubset(resultOf(impl.AssignSubset(v, numbers(positions...), other)), numbers(positions...), w))
		if plainKindByText(other) == plainKindByText(w) {
			checkVector(t, "the last assignment counts", twice, whole)
		}
		if v.Kind == impl.KindList {
			checkListAssignments(t, v, positions, randomVector(source, source.IntN(6), 3, 1))
		}
	}
}

// checkListAssignments compares the ways to assign to a list.
func checkListAssignments(t *testing.T, v impl.Vector, positions []int, w impl.Vector) {
	t.Helper()
	resultOf := arranged(t, v)
	negative := numbers(-40)
	for _, position := range positions {
		negative.Items = append(negative.Items, whole(-position))
	}
	rest := resultOf(impl.SubsetOf(v, negative))
	rest.Class = v.Class
	checkVector(t, "deleted parts", resultOf(impl.AssignSubset(v, numbers(positions...), impl.Vector{})), rest)
	for _, position := range positions {
		element, problem := impl.AssignElement(v, numbers(position), w)
		subset, otherProblem := impl.AssignSubset(v, numbers(position), listOf(w))
		if w.Kind == impl.KindNull {
			subset, otherProblem = impl.AssignSubset(v, numbers(position), w)
		}
		checkOutcome(t, "element and subset", element, problem, subset, otherProblem)
	}
	for _, name := range append(slices.Clone(v.Names), "z") {
		if name == "" {
			continue
		}
		field, problem := impl.AssignField(v, name, w)
		element, otherProblem := impl.AssignElement(v, texts(name), w)
		checkOutcome(t, "field and element", field, problem, element, otherProblem)
		got, _ := impl.FieldOf(field, name)
		if problem == "" && w.Kind != impl.KindNull {
			checkVector(t, "field that was assigned", got, w)
		}
	}
}

// TestAssignmentsShareNoMemory also checks that the functions change nothing, not even behind the end of a slice.
func TestAssignmentsShareNoMemory(t *testing.T) {
	list := append(ordinaryVectors(),
		sample{"numbers with names", classed(named(numbers(9, 7, 8), "a", "b", "a"), "f")},
		sample{"a longer list", classed(named(listOf(named(numbers(1, 2), "in", ""), listOf(texts("x")), factor(1, 2), listOf()), "a", "", "b", "z"), "c", "d")},
		sample{"a factor", named(factor(3, 0, 1, 2), "a", "b", "c", "d")},
		sample{"strings", named(holed("low", "-", "b"), "p", "", "q")},
		sample{"classes", texts("a", "b")})
	subscripts := []impl.Vector{{}, numbers(1), numbers(2), numbers(3, 1), numbers(1, 1), numbers(-1), logicals(1), logicals(0, 1), texts("a"), texts("z", "y", "z"), numbers(9), numbers(2, 7), numbersUpTo(40)}
	for _, s := range list {
		for _, other := range list {
			v, w := roomy(s.vector), roomy(other.vector)
			before, beforeOther := contentOf(v), contentOf(w)
			regions := slices.Concat(regionsOf(v), regionsOf(w))
			name := other.name + " to " + s.name
			for _, plain := range subscripts {
				subscript := roomy(plain)
				beforeSubscript := contentOf(subscript)
				got, _ := impl.AssignSubset(v, subscript, w)
				checkApart(t, "subset: "+name, regionsOf(got), regions, regionsOf(subscript))
				got, _ = impl.AssignElement(v, subscript, w)
				checkApart(t, "element: "+name, regionsOf(got), regions, regionsOf(subscript))
				got, _ = impl.AssignSubset(v, subscript, impl.Vector{})
				checkApart(t, "deleted parts: "+name, regionsOf(got), regions, regionsOf(subscript))
				got, _ = impl.AssignElement(v, subscript, impl.Vector{})
				checkApart(t, "deleted part: "+name, regionsOf(got), regions, regionsOf(subscript))
				if contentOf(subscript) != beforeSubscript {
					t.Errorf("%s: the subscript has changed", name)
				}
			}
			for _, field := range []string{"a", "z", "p"} {
				got, _ := impl.AssignField(v, field, w)
				checkApart(t, "field: "+name, regionsOf(got), regions)
				got, _ = impl.AssignField(v, field, impl.Vector{})
				checkApart(t, "deleted field: "+name, regionsOf(got), regions)
			}
			for _, assign := range []func(v impl.Vector, w impl.Vector) (impl.Vector, string){impl.AssignNames, impl.AssignClass, impl.AssignLevels} {
				got, _ := assign(v, w)
				checkApart(t, "attribute: "+name, regionsOf(got), regions)
				got, _ = assign(v, impl.Vector{})
				checkApart(t, "removed attribute: "+name, regionsOf(got), regions)
			}
			if contentOf(v) != before || contentOf(w) != beforeOther {
				t.Errorf("%s: an argument has changed", name)
			}
		}
		v := roomy(s.vector)
		got, _ := impl.AssignSubset(v, v, v)
		checkApart(t, "itself: "+s.name, regionsOf(got), regionsOf(v))
		got, _ = impl.AssignElement(v, numbers(1), v)
		checkApart(t, "its own part: "+s.name, regionsOf(got), regionsOf(v))
	}
}

// TestRecycledPartsShareNoMemory has one part that stands at several positions, also beside NULL.
func TestRecycledPartsShareNoMemory(t *testing.T) {
	part := named(listOf(factor(1, 2), named(numbers(2), "in")), "x", "y")
	v, w := roomy(named(listOf(numbers(1), texts("a")), "p", "q")), roomy(listOf(part))
	for _, s := range []impl.Vector{numbers(1, 2), numbers(1, 2, 5), texts("p", "z", "y"), logicals(1)} {
		got, problem := impl.AssignSubset(v, s, w)
		want, _ := assignSubsetByText(v, s, w)
		checkResult(t, fieldsOf(s), got, problem, want)
		checkApart(t, fieldsOf(s), regionsOf(got), regionsOf(v), regionsOf(w))
	}
	got, problem := impl.AssignSubset(numbers(1, 2), logicals(1), roomy(classed(function(1, 2), "c", "d")))
	checkResult(t, "a function twice", got, problem, listOf(classed(function(1, 2), "c", "d"), classed(function(1, 2), "c", "d")))
	checkApart(t, "a function twice", regionsOf(got))
}

// TestAssignmentsInUse checks that changing a result does not change what a second call returns.
func TestAssignmentsInUse(t *testing.T) {
	v := roomy(classed(named(listOf(numbers(1), texts("x"), numbers(3)), "a", "b", "a"), "c"))
	w := roomy(listOf(numbers(5)))
	before := contentOf(v) + contentOf(w)
	for range 2 {
		got, problem := impl.AssignSubset(v, numbers(2), w)
		checkResult(t, "subset", got, problem, classed(named(listOf(numbers(1), numbers(5), numbers(3)), "a", "b", "a"), "c"))
		got.Parts[1].Items[0], got.Names[0], got.Class[0] = word("changed"), "changed", "changed"
		got, problem = impl.AssignSubset(v, texts("a"), impl.Vector{})
		checkResult(t, "deleted part", got, problem, classed(named(listOf(texts("x"), numbers(3)), "b", "a"), "c"))
		got.Parts[0].Items[0], got.Names[0] = word("changed"), "changed"
		got, problem = impl.AssignElement(v, texts("b"), w)
		checkResult(t, "element", got, problem, classed(named(listOf(numbers(1), listOf(numbers(5)), numbers(3)), "a", "b", "a"), "c"))
		got.Parts[1].Parts[0].Items[0] = word("changed")
		got, problem = impl.AssignField(v, "z", w)
		checkResult(t, "field", got, problem, classed(named(listOf(numbers(1), texts("x"), numbers(3), listOf(numbers(5))), "a", "b", "a", "z"), "c"))
		got.Names[3], got.Parts[0].Items[0] = "changed", word("changed")
		got, problem = impl.AssignNames(v, texts("p"))
		checkResult(t, "names", got, problem, classed(named(listOf(numbers(1), texts("x"), numbers(3)), "p", "", ""), "c"))
		got.Names[1], got.Parts[2].Items[0] = "changed", word("changed")
		got, problem = impl.AssignClass(v, texts("d"))
		checkResult(t, "class", got, problem, classed(named(listOf(numbers(1), texts("x"), numbers(3)), "a", "b", "a"), "d"))
		got.Class[0] = "changed"
		got, problem = impl.AssignLevels(factor(1), texts("p", "q"))
		checkResult(t, "levels", got, problem, levelled(factor(1), "p", "q"))
		got.Levels[0] = "changed"
	}
	if contentOf(v)+contentOf(w) != before {
		t.Error("an argument has changed")
	}
}
