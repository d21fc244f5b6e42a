package tests

import (
	"math/big"
	"math/rand/v2"
	"slices"
	"testing"

	"loop.example/g03406/impl"
)

const noElements = "no elements"

// A summary is one of the functions with a result of one element, and what the document says about it.
type summary struct {
	name     string
	call     func(v impl.Vector, drop bool) (impl.Vector, string)
	kind     int
	unsuited string
	// needsElements tells that a vector without elements is a problem.
	needsElements bool
	element       func(items []impl.Item) impl.Item
}

func largestOf(v impl.Vector, drop bool) (impl.Vector, string) { return impl.ExtremeOf(v, drop, true) }

func smallestOf(v impl.Vector, drop bool) (impl.Vector, string) {
	return impl.ExtremeOf(v, drop, false)
}

func allTrue(v impl.Vector, drop bool) (impl.Vector, string) { return impl.AllOf(v, drop, false) }

func someTrue(v impl.Vector, drop bool) (impl.Vector, string) { return impl.AllOf(v, drop, true) }

func summaries() []summary {
	return []summary{
		{"SumOf", impl.SumOf, impl.KindNumber, nonNumeric, false, sumByText},
		{"ProductOf", impl.ProductOf, impl.KindNumber, nonNumeric, false, productByText},
		{"ExtremeOf largest", largestOf, impl.KindNumber, nonNumeric, true, func(items []impl.Item) impl.Item { return extremeByText(items, 1) }},
		{"ExtremeOf smallest", smallestOf, impl.KindNumber, nonNumeric, true, func(items []impl.Item) impl.Item { return extremeByText(items, -1) }},
		{"MeanOf", impl.MeanOf, impl.KindNumber, nonNumeric, false, meanByText},
		varianceSummary(),
		{"MedianOf", impl.MedianOf, impl.KindNumber, nonNumeric, false, medianByText},
		{"AllOf all", allTrue, impl.KindLogical, nonLogical, false, func(items []impl.Item) impl.Item { return decidedByText(items, 0, 1) }},
		{"AllOf some", someTrue, impl.KindLogical, nonLogical, false, func(items []impl.Item) impl.Item { return decidedByText(items, 1, 0) }},
	}
}

func varianceSummary() summary {
	return summary{"VarianceOf", impl.VarianceOf, impl.KindNumber, nonNumeric, false, varianceByText}
}

// foldedByText relies on rational numbers of any size; a step out of range or a missing element makes the result missing.
func foldedByText(items []impl.Item, start int64, step func(total *big.Rat, x *big.Rat)) impl.Item {
	total := big.NewRat(start, 1)
	for _, x := range items {
		if x == missingItem() {
			return missingItem()
		}
		step(total, ratOf(x))
		if itemOf(total) == missingItem() {
			return missingItem()
		}
	}
	return itemOf(total)
}

func sumByText(items []impl.Item) impl.Item {
	return foldedByText(items, 0, func(total *big.Rat, x *big.Rat) { total.Add(total, x) })
}

func productByText(items []impl.Item) impl.Item {
	return foldedByText(items, 1, func(total *big.Rat, x *big.Rat) { total.Mul(total, x) })
}

// dividedByText returns the missing value for a missing x and for the count 0.
func dividedByText(x impl.Item, count int) impl.Item {
	if x == missingItem() || count == 0 {
		return missingItem()
	}
	return itemOf(new(big.Rat).Quo(ratOf(x), big.NewRat(int64(count), 1)))
}

func meanByText(items []impl.Item) impl.Item {
	return dividedByText(sumByText(items), len(items))
}

func varianceByText(items []impl.Item) impl.Item {
	mean := meanByText(items)
	if len(items) < 2 || mean == missingItem() {
		return missingItem()
	}
	var squares []impl.Item
	for _, x := range items {
		difference := itemOf(new(big.Rat).Sub(ratOf(x), ratOf(mean)))
		if difference == missingItem() {
			return missingItem()
		}
		squares = append(squares, itemOf(new(big.Rat).Mul(ratOf(difference), ratOf(difference))))
	}
	return dividedByText(sumByText(squares), len(items)-1)
}

// ascendingByText returns the numbers in ascending order: each stands behind as many others as are less than it.
func ascendingByText(items []impl.Item) []impl.Item {
	sorted := make([]impl.Item, len(items))
	for i, x := range items {
		place := 0
		for k, y := range items {
			if order := ratOf(y).Cmp(ratOf(x)); order < 0 || order == 0 && k < i {
				place++
			}
		}
		sorted[place] = x
	}
	return sorted
}

func medianByText(items []impl.Item) impl.Item {
	n := len(items)
	if n == 0 || slices.Contains(items, missingItem()) {
		return missingItem()
	}
	sorted := ascendingByText(items)
	if n%2 == 1 {
		return dividedByText(sumByText([]impl.Item{sorted[n/2], sorted[n/2]}), 2)
	}
	return dividedByText(sumByText(sorted[n/2-1:n/2+1]), 2)
}

// extremeByText returns the element for which no other one stands in the direction of the sign.
func extremeByText(items []impl.Item, sign int) impl.Item {
	if slices.Contains(items, missingItem()) {
		return missingItem()
	}
	for _, x := range items {
		if !slices.ContainsFunc(items, func(y impl.Item) bool { return ratOf(y).Cmp(ratOf(x)) == sign }) {
			return x
		}
	}
	return missingItem()
}

// decidedByText returns the deciding logical value if an element has it, the other one if all elements have that, and a missing value otherwise.
func decidedByText(items []impl.Item, deciding int, other int) impl.Item {
	isMissing := false
	for _, x := range items {
		switch logicalOfItem(x) {
		case deciding:
			return whole(deciding)
		case 2:
			isMissing = true
		}
	}
	if isMissing {
		return missingItem()
	}
	return whole(other)
}

func knownByText(items []impl.Item) []impl.Item {
	return slices.DeleteFunc(slices.Clone(items), func(x impl.Item) bool { return x == missingItem() })
}

// problemByText returns the first problem of a summary of v, which must not be circular.
func (s summary) problemByText(v impl.Vector, drop bool) string {
	switch {
	case faultOf(v) != "":
		return invalidVector
	case !isNumericByText(v):
		return s.unsuited
	case s.needsElements && (len(v.Items) == 0 || drop && len(knownByText(v.Items)) == 0):
		return noElements
	}
	return ""
}

func (s summary) check(t *testing.T, name string, v impl.Vector, drop bool) {
	t.Helper()
	name = s.name + " of " + name
	if drop {
		name += ", missing elements left out"
	}
	w, problem := s.call(v, drop)
	if want := s.problemByText(v, drop); want != "" {
		checkProblem(t, name, w, problem, want)
		return
	}
	items := v.Items
	if drop {
		items = knownByText(items)
	}
	checkResult(t, name, w, problem, vectorOf(s.kind, s.element(items)))
	if !impl.IsVector(w) {
		t.Errorf("%s: no vector", name)
	}
}

// checkSummaries checks all functions of the chapter.
func checkSummaries(t *testing.T, name string, v impl.Vector) {
	t.Helper()
	for _, s := range summaries() {
		s.check(t, name, v, false)
		s.check(t, name, v, true)
	}
	checkCumulative(t, name, v)
}

func checkCumulative(t *testing.T, name string, v impl.Vector) {
	t.Helper()
	name = "CumulativeOf of " + name
	w, problem := impl.CumulativeOf(v)
	if want := varianceSummary().problemByText(v, false); want != "" {
		checkProblem(t, name, w, problem, want)
		return
	}
	want := impl.Vector{Kind: impl.KindNumber, Names: v.Names}
	for i := range v.Items {
		want.Items = append(want.Items, sumByText(v.Items[:i+1]))
	}
	checkResult(t, name, w, problem, want)
	if !impl.IsVector(w) {
		t.Errorf("%s: no vector", name)
	}
}

// fractions takes the numerators and denominators of numbers in lowest terms; 0 and 0 stand for the missing value.
func fractions(parts ...int) impl.Vector {
	v := impl.Vector{Kind: impl.KindNumber}
	for i := 0; i < len(parts); i += 2 {
		v.Items = append(v.Items, ratio(parts[i], parts[i+1]))
	}
	return v
}

// gaps returns the numbers with a missing one behind each.
func gaps(list ...int) impl.Vector {
	v := impl.Vector{Kind: impl.KindNumber}
	for _, x := range list {
		v.Items = append(v.Items, whole(x), missingItem())
	}
	return v
}

func TestSummariesInWords(t *testing.T) {
	nothing := missing(impl.KindNumber, 1)
	cases := []struct {
		name string
		call func(v impl.Vector, drop bool) (impl.Vector, string)
		from impl.Vector
		// kept is the result with missing elements, dropped the one without them.
		kept, dropped impl.Vector
	}{
		{"sum", impl.SumOf, numbers(1, 2, 3), numbers(6), numbers(6)},
		{"sum", impl.SumOf, fractions(1, 2, -1, 3, 5, 6), numbers(1), numbers(1)},
		{"sum", impl.SumOf, gaps(4, 5), nothing, numbers(9)},
		{"product", impl.ProductOf, numbers(2, -3, 4), numbers(-24), numbers(-24)},
		{"product", impl.ProductOf, fractions(2, 3, 3, 4), fractions(1, 2), fractions(1, 2)},
		{"product", impl.ProductOf, gaps(0, 5), nothing, numbers(0)},
		{"largest", largestOf, numbers(2, 9, 4), numbers(9), numbers(9)},
		{"largest", largestOf, numbers(-2, -9, -4), numbers(-2), numbers(-2)},
		{"largest", largestOf, fractions(1, 3, 1, 2, 2, 5), fractions(1, 2), fractions(1, 2)},
		{"largest", largestOf, gaps(3, 7, 5), nothing, numbers(7)},
		{"smallest", smallestOf, numbers(2, 9, 1), numbers(1), numbers(1)},
		{"smallest", smallestOf, numbers(-2, -9, -4), numbers(-9), numbers(-9)},
		{"smallest", smallestOf, fractions(1, 2, 1, 3, 2, 5), fractions(1, 3), fractions(1, 3)},
		{"smallest", smallestOf, gaps(3, 1, 5), nothing, numbers(1)},
		{"mean", impl.MeanOf, numbers(1, 2), fractions(3, 2), fractions(3, 2)},
		{"mean", impl.MeanOf, numbers(-1, 1, 6), numbers(2), numbers(2)},
		{"mean", impl.MeanOf, gaps(1, 2, 6), nothing, numbers(3)},
		{"variance", impl.VarianceOf, numbers(1, 2, 3), numbers(1), numbers(1)},
		{"variance", impl.VarianceOf, numbers(1, 2), fractions(1, 2), fractions(1, 2)},
		{"variance", impl.VarianceOf, numbers(7, 7, 7, 7), numbers(0), numbers(0)},
		{"variance", impl.VarianceOf, numbers(-3, 0, 0, 3), numbers(6), numbers(6)},
		{"variance", impl.VarianceOf, gaps(0, 4), nothing, numbers(8)},
		{"variance", impl.VarianceOf, gaps(4), nothing, nothing},
		{"median", impl.MedianOf, numbers(3, 1, 2, 10), fractions(5, 2), fractions(5, 2)},
		{"median", impl.MedianOf, numbers(3, 1, 2), numbers(2), numbers(2)},
		{"median", impl.MedianOf, numbers(10, 1), fractions(11, 2), fractions(11, 2)},
		{"median", impl.MedianOf, numbers(10, 9, -8, 10, 9), numbers(9), numbers(9)},
		{"median", impl.MedianOf, fractions(1, 2, 1, 3, 2, 5), fractions(2, 5), fractions(2, 5)},
		{"median", impl.MedianOf, gaps(10, 1, 3), nothing, numbers(3)},
		{"all", allTrue, logicals(1, 1), logicals(1), logicals(1)},
		{"all", allTrue, logicals(1, 2), logicals(2), logicals(1)},
		{"all", allTrue, logicals(2, 0, 1), logicals(0), logicals(0)},
		{"all", allTrue, fractions(1, 2, -3, 1), logicals(1), logicals(1)},
		{"all", allTrue, gaps(1, 0), logicals(0), logicals(0)},
		{"some", someTrue, logicals(0, 0), logicals(0), logicals(0)},
		{"some", someTrue, logicals(0, 2), logicals(2), logicals(0)},
		{"some", someTrue, logicals(2, 1, 0), logicals(1), logicals(1)},
		{"some", someTrue, numbers(0, 7), logicals(1), logicals(1)},
		{"some", someTrue, fractions(0, 1, 0, 0, -1, 9), logicals(1), logicals(1)},
	}
	for _, c := range cases {
		v, problem := c.call(c.from, false)
		checkResult(t, c.name+" of "+fieldsOf(c.from), v, problem, c.kept)
		v, problem = c.call(c.from, true)
		checkResult(t, c.name+" of the known ones of "+fieldsOf(c.from), v, problem, c.dropped)
	}
}

func TestCumulativeOfInWords(t *testing.T) {
	for _, c := range []struct{ from, want impl.Vector }{
		{numbers(1, 2, 3), numbers(1, 3, 6)},
		{numbers(5), numbers(5)},
		{fractions(1, 2, -1, 2, 1, 3), fractions(1, 2, 0, 1, 1, 3)},
		{gaps(1, 2), fractions(1, 1, 0, 0, 0, 0, 0, 0)},
		{fractions(0, 0, 1, 1), missing(impl.KindNumber, 2)},
		{numbers(largest, 1, -1), fractions(largest, 1, 0, 0, 0, 0)},
		{numbers(largest, -1, 1), numbers(largest, largest-1, largest)},
		{logicals(1, 0, 1), numbers(1, 1, 2)},
		{logicals(1, 2, 1), fractions(1, 1, 0, 0, 0, 0)},
		{named(numbers(4, 5), "", "b"), named(numbers(4, 9), "", "b")},
		{named(logicals(1, 2), "a", "b"), named(fractions(1, 1, 0, 0), "a", "b")},
		{classed(named(numbers(4), "a"), "money"), named(numbers(4), "a")},
		{impl.Vector{}, numbers()},
		{logicals(), numbers()},
		{classed(numbers(), "c"), numbers()},
	} {
		v, problem := impl.CumulativeOf(c.from)
		checkResult(t, "running sums of "+fieldsOf(c.from), v, problem, c.want)
	}
}

// neutral returns what a summary of no elements is, and its problem.
func neutral(name string) (impl.Vector, string) {
	switch name {
	case "SumOf":
		return numbers(0), ""
	case "ProductOf":
		return numbers(1), ""
	case "AllOf all":
		return logicals(1), ""
	case "AllOf some":
		return logicals(0), ""
	case "ExtremeOf largest", "ExtremeOf smallest":
		return impl.Vector{}, noElements
	}
	return missing(impl.KindNumber, 1), ""
}

// TestSummariesOfNoElements also has vectors whose elements are all missing, and left out.
func TestSummariesOfNoElements(t *testing.T) {
	none := []impl.Vector{{}, logicals(), numbers(), classed(numbers(), "c"), classed(logicals(), "c", "d")}
	gone := []impl.Vector{missing(impl.KindNumber, 1), logicals(2), logicals(2, 2, 2), missing(impl.KindNumber, 40), named(missing(impl.KindNumber, 2), "a", "b"), classed(logicals(2), "c")}
	for _, s := range summaries() {
		want, problemOfWant := neutral(s.name)
		check := func(v impl.Vector, drop bool) {
			w, problem := s.call(v, drop)
			checkVector(t, s.name+" of "+fieldsOf(v), w, want)
			if problem != problemOfWant {
				t.Errorf("%s of %s: problem %q, not %q", s.name, fieldsOf(v), problem, problemOfWant)
			}
		}
		for _, v := range none {
			check(v, false)
			check(v, true)
		}
		for _, v := range gone {
			check(v, true)
			w, problem := s.call(v, false)
			checkResult(t, s.name+" of "+fieldsOf(v), w, problem, missing(s.kind, 1))
		}
	}
}

func TestSummariesOfOneElement(t *testing.T) {
	for _, x := range append(someNumbers(), missingItem()) {
		v := vectorOf(impl.KindNumber, x)
		checkSummaries(t, "one number", v)
		checkSummaries(t, "one number with a name and a class", classed(named(v, "a"), "c"))
		for _, call := range []func(impl.Vector, bool) (impl.Vector, string){impl.SumOf, impl.ProductOf, largestOf, smallestOf, impl.MeanOf} {
			w, problem := call(v, false)
			checkResult(t, "one number", w, problem, v)
		}
		w, problem := impl.VarianceOf(v, false)
		checkResult(t, "variance of one number", w, problem, missing(impl.KindNumber, 1))
		w, problem = impl.CumulativeOf(v)
		checkResult(t, "running sum of one number", w, problem, v)
	}
	for _, x := range []int{0, 1, 2} {
		checkSummaries(t, "one logical value", logicals(x))
		for _, call := range []func(impl.Vector, bool) (impl.Vector, string){allTrue, someTrue} {
			w, problem := call(logicals(x), false)
			checkResult(t, "one logical value", w, problem, logicals(x))
		}
	}
}

// TestOutOfRangeOnTheWay has results that are in range and are missing all the same, and others that have the same elements in another order.
func TestOutOfRangeOnTheWay(t *testing.T) {
	nothing := missing(impl.KindNumber, 1)
	for _, c := range []struct {
		name       string
		call       func(v impl.Vector, drop bool) (impl.Vector, string)
		from, want impl.Vector
	}{
		{"sum", impl.SumOf, numbers(largest, 1, -1), nothing},
		{"sum", impl.SumOf, numbers(-1, 1, largest), numbers(largest)},
		{"sum", impl.SumOf, numbers(largest, -1, 1), numbers(largest)},
		{"sum", impl.SumOf, numbers(-largest, -1, 1), nothing},
		{"sum", impl.SumOf, numbers(1, -1, -largest), numbers(-largest)},
		{"sum", impl.SumOf, fractions(1, largest, 1, largest-1, -1, largest-1), nothing},
		{"sum", impl.SumOf, fractions(1, largest-1, -1, largest-1, 1, largest), fractions(1, largest)},
		{"product", impl.ProductOf, numbers(100000, 100000, 0), nothing},
		{"product", impl.ProductOf, numbers(0, 100000, 100000), numbers(0)},
		{"product", impl.ProductOf, fractions(100000, 1, 100000, 1, 1, 100000), nothing},
		{"product", impl.ProductOf, fractions(1, 100000, 100000, 1, 100000, 1), numbers(100000)},
		{"product", impl.ProductOf, fractions(1, 100000, 1, 100000, 100000, 1), nothing},
		{"mean", impl.MeanOf, numbers(largest, largest), nothing},
		{"mean", impl.MeanOf, numbers(largest, -largest, largest), numbers(333333333)},
		{"mean", impl.MeanOf, numbers(largest, largest, -largest), nothing},
		{"mean", impl.MeanOf, fractions(1, largest, 0, 1), nothing},
		{"variance", impl.VarianceOf, numbers(largest, -largest), nothing},
		{"variance", impl.VarianceOf, numbers(largest, largest), nothing},
		{"variance", impl.VarianceOf, numbers(largest-1, 1-largest, 0), nothing},
		{"variance", impl.VarianceOf, numbers(-31622, 0, 31622), nothing},
		{"variance", impl.VarianceOf, numbers(-22360, 0, 22360), numbers(499969600)},
		{"variance", impl.VarianceOf, numbers(1000000, 1000002), numbers(2)},
		{"variance", impl.VarianceOf, fractions(-14, 1, -2, 7, -1, 6, 1, 17), nothing},
		{"variance", impl.VarianceOf, fractions(1, 17, -1, 6, -2, 7, -14, 1), fractions(98097833, 2039184)},
		{"median", impl.MedianOf, numbers(largest), nothing},
		{"median", impl.MedianOf, numbers(499999999), numbers(499999999)},
		{"median", impl.MedianOf, numbers(500000000), nothing},
		{"median", impl.MedianOf, numbers(-500000000, -1, 0, -largest, -500000001), nothing},
		{"median", impl.MedianOf, numbers(largest, -largest), numbers(0)},
		{"median", impl.MedianOf, fractions(1, largest), fractions(1, largest)},
		{"median", impl.MedianOf, fractions(1, largest, 4, largest), nothing},
		{"median", impl.MedianOf, fractions(largest, 2, -largest, 1, largest, 1), fractions(largest, 2)},
		{"largest", largestOf, numbers(largest, -largest, largest-1), numbers(largest)},
		{"smallest", smallestOf, numbers(largest, -largest, 1-largest), numbers(-largest)},
		{"largest", largestOf, fractions(largest-2, largest, largest-1, largest, 1, largest), fractions(largest-1, largest)},
	} {
		for _, drop := range []bool{false, true} {
			v, problem := c.call(c.from, drop)
			checkResult(t, c.name+" of "+fieldsOf(c.from), v, problem, c.want)
		}
		checkSummaries(t, "numbers at the limits", c.from)
	}
}

// TestVarianceAddsInOrder has numbers and the same ones in the opposite order: where the sums on the way differ, only one of them may be out of range.
func TestVarianceAddsInOrder(t *testing.T) {
	source := rand.New(rand.NewPCG(6, 7))
	variance := varianceSummary()
	different := 0
	for range 4000 {
		v := impl.Vector{Kind: impl.KindNumber}
		for range 4 {
			v.Items = append(v.Items, itemOf(big.NewRat(int64(source.IntN(41)-20), []int64{1, source.Int64N(100) + 1}[source.IntN(2)])))
		}
		reversed := vectorOf(impl.KindNumber, slices.Clone(v.Items)...)
		slices.Reverse(reversed.Items)
		variance.check(t, "numbers", v, false)
		variance.check(t, "numbers in the opposite order", reversed, false)
		if meanByText(v.Items) == meanByText(reversed.Items) && variance.element(v.Items) != variance.element(reversed.Items) {
			different++
		}
	}
	if different < 10 {
		t.Errorf("only %d variances depend on the order", different)
	}
}

// TestNamesOfSummaries is for names and classes, which results of one element do not have.
func TestNamesOfSummaries(t *testing.T) {
	for _, v := range []impl.Vector{numbers(3, 1), logicals(1, 0), gaps(2), logicals(2, 1)} {
		attributed := classed(named(v, "a", "b"), "c", "d")
		for _, s := range summaries() {
			for _, drop := range []bool{false, true} {
				want, problemOfWant := s.call(v, drop)
				w, problem := s.call(attributed, drop)
				checkResult(t, s.name, w, problem+problemOfWant, want)
			}
		}
		w, problem := impl.CumulativeOf(attributed)
		if problem != "" || !slices.Equal(w.Names, attributed.Names) || len(w.Class) > 0 {
			t.Errorf("names of the running sums: %s, %q", fieldsOf(w), problem)
		}
	}
}

// TestSummariesOfLogicalValues has the numbers that they count as.
func TestSummariesOfLogicalValues(t *testing.T) {
	for _, list := range listsOver([]int{0, 1, 2}, 6) {
		v := logicals(list...)
		as := vectorOf(impl.KindNumber, v.Items...)
		checkSummaries(t, "logical values", v)
		for _, s := range summaries() {
			for _, drop := range []bool{false, true} {
				w, problem := s.call(v, drop)
				want, problemOfWant := s.call(as, drop)
				checkVector(t, s.name, w, want)
				if problem != problemOfWant {
					t.Errorf("%s of %v: problem %q, not %q", s.name, list, problem, problemOfWant)
				}
			}
		}
		all, _ := impl.AllOf(v, false, false)
		some, _ := impl.AllOf(v, false, true)
		checkVector(t, "all", all, logicals(agreed(list, isAll)))
		checkVector(t, "some", some, logicals(agreed(list, isAny)))
	}
}

// checkSummaryProblem checks that every function has this problem, with and without drop; AllOf has its own one in place of nonNumeric.
func checkSummaryProblem(t *testing.T, name string, v impl.Vector, want string) {
	t.Helper()
	for _, s := range summaries() {
		wanted := want
		if want == nonNumeric {
			wanted = s.unsuited
		}
		for _, drop := range []bool{false, true} {
			w, problem := s.call(v, drop)
			checkProblem(t, s.name+" of "+name, w, problem, wanted)
		}
	}
	w, problem := impl.CumulativeOf(v)
	checkProblem(t, "CumulativeOf of "+name, w, problem, want)
}

// TestSummaryProblemsInWords has each problem alone, and together with each that comes behind it.
func TestSummaryProblemsInWords(t *testing.T) {
	for _, c := range []struct {
		name string
		from impl.Vector
		want string
	}{
		{"an invalid vector", numbers(1, 1000000000), invalidVector},
		{"an invalid vector of strings", named(texts("a"), "x", "y"), invalidVector},
		{"an invalid factor", levelled(numbers(4), "a", "b", "c"), invalidVector},
		{"an invalid list", listOf(logicals(1), vectorOf(impl.KindLogical, whole(2))), invalidVector},
		{"an invalid function", function(-1000, 0), invalidVector},
		{"an invalid vector without elements", named(numbers(), "a"), invalidVector},
		{"an invalid NULL", classed(impl.Vector{}, "a"), invalidVector},
		{"an invalid vector whose elements are missing", named(missing(impl.KindNumber, 1), "a", "b"), invalidVector},
		{"an invalid vector of strings without elements", levelled(texts(), "a"), invalidVector},
		{"an invalid vector of missing strings", levelled(missing(impl.KindText, 1), "a"), invalidVector},
		{"a string", texts("a"), nonNumeric},
		{"strings that look like numbers", texts("1", "2"), nonNumeric},
		{"strings that look like logical values", texts("TRUE", "FALSE"), nonNumeric},
		{"a factor", factor(1, 2, 3), nonNumeric},
		{"a factor of numbers", levelled(numbers(1, 2), "1", "2"), nonNumeric},
		{"levels without a class", levelled(numbers(1), "a"), nonNumeric},
		{"a list of numbers", listOf(numbers(1), numbers(2)), nonNumeric},
		{"a data frame", classed(named(listOf(numbers(1)), "x"), "data.frame"), nonNumeric},
		{"a function", function(1, 1), nonNumeric},
		{"a function with a class", classed(function(1, 1), "numeric"), nonNumeric},
		{"no strings", texts(), nonNumeric},
		{"a factor without elements", factor(), nonNumeric},
		{"an empty list", listOf(), nonNumeric},
		{"missing strings", missing(impl.KindText, 3), nonNumeric},
		{"a factor of missing elements", factor(0, 0), nonNumeric},
		{"a list of a missing number", listOf(missing(impl.KindNumber, 1)), nonNumeric},
		{"a list of NULL", listOf(impl.Vector{}), nonNumeric},
	} {
		checkSummaryProblem(t, c.name, c.from, c.want)
	}
}

func TestNoElements(t *testing.T) {
	for _, isLargest := range []bool{false, true} {
		for _, drop := range []bool{false, true} {
			for _, v := range []impl.Vector{{}, numbers(), logicals(), classed(numbers(), "c")} {
				w, problem := impl.ExtremeOf(v, drop, isLargest)
				checkProblem(t, fieldsOf(v), w, problem, noElements)
			}
		}
		for _, v := range []impl.Vector{missing(impl.KindNumber, 1), logicals(2, 2), named(missing(impl.KindNumber, 2), "a", "b")} {
			w, problem := impl.ExtremeOf(v, true, isLargest)
			checkProblem(t, fieldsOf(v), w, problem, noElements)
			w, problem = impl.ExtremeOf(v, false, isLargest)
			checkResult(t, fieldsOf(v), w, problem, missing(impl.KindNumber, 1))
		}
	}
}

func TestSummariesOfInvalidVectors(t *testing.T) {
	for _, s := range invalidVectors() {
		checkSummaryProblem(t, s.name, s.vector, invalidVector)
	}
}

func TestSummariesOfSamples(t *testing.T) {
	for _, s := range ordinaryVectors() {
		checkSummaries(t, s.name, s.vector)
	}
}

// randomNumber returns small numbers mostly, and missing ones and numbers at the limits now and then.
func randomNumber(source *rand.Rand, others []impl.Item) impl.Item {
	switch source.IntN(12) {
	case 0:
		return missingItem()
	case 1:
		return others[source.IntN(len(others))]
	}
	return itemOf(big.NewRat(int64(source.IntN(41)-20), int64(source.IntN(6)+1)))
}

func TestSummariesOfRandomVectors(t *testing.T) {
	source := rand.New(rand.NewPCG(6, 1))
	others := append(someNumbers(), randomNumbers(200)...)
	for range 6000 {
		v := impl.Vector{Kind: impl.KindNumber}
		for range source.IntN(8) {
			v.Items = append(v.Items, randomNumber(source, others))
		}
		if source.IntN(2) == 0 {
			v.Names = randomNames(source, len(v.Items))
		}
		checkSummaries(t, "random numbers", v)
	}
	for range 3000 {
		v := randomVector(source, source.IntN(6), 8, 2)
		checkSummaries(t, fieldsOf(v), v)
	}
}

// TestSummariesOfEachLength has all lengths of vectors, of numbers in an order that is neither ascending nor descending.
func TestSummariesOfEachLength(t *testing.T) {
	for length := range impl.MaxLength + 1 {
		v := impl.Vector{Kind: impl.KindNumber}
		for i := range length {
			v.Items = append(v.Items, whole((i*17+5)%41-20))
		}
		checkSummaries(t, "numbers in disorder", v)
		v.Items = append(v.Items, whole(1000))
		checkSummaries(t, "numbers in disorder and a large one", v)
	}
}

// summarized returns the one element of a summary that has no problem.
func summarized(t *testing.T, call func(v impl.Vector, drop bool) (impl.Vector, string), v impl.Vector) impl.Item {
	t.Helper()
	w, problem := call(v, false)
	if problem != "" || len(w.Items) != 1 {
		t.Fatalf("summary of %s: %s, %q", fieldsOf(v), fieldsOf(w), problem)
	}
	return w.Items[0]
}

func runningSums(t *testing.T, v impl.Vector) impl.Vector {
	t.Helper()
	w, problem := impl.CumulativeOf(v)
	if problem != "" {
		t.Fatalf("running sums of %s: %q", fieldsOf(v), problem)
	}
	return w
}

// knownVector returns at least one small known number.
func knownVector(source *rand.Rand) impl.Vector {
	v := impl.Vector{Kind: impl.KindNumber}
	for range source.IntN(8) + 1 {
		v.Items = append(v.Items, itemOf(big.NewRat(int64(source.IntN(21)-10), int64(source.IntN(3)+1))))
	}
	return v
}

func TestRunningSumsFitTogether(t *testing.T) {
	source := rand.New(rand.NewPCG(6, 2))
	for range 3000 {
		v := knownVector(source)
		n := len(v.Items)
		sums := runningSums(t, v)
		previous := whole(0)
		for i, sum := range sums.Items {
			if impl.SubtractNumbers(sum, previous) != v.Items[i] {
				t.Errorf("running sums of %s: %s", fieldsOf(v), fieldsOf(sums))
			}
			if sum != summarized(t, impl.SumOf, vectorOf(impl.KindNumber, v.Items[:i+1]...)) {
				t.Errorf("sum of the first %d of %s", i+1, fieldsOf(v))
			}
			previous = sum
		}
		if sums.Items[n-1] != summarized(t, impl.SumOf, v) {
			t.Errorf("last running sum of %s: %v", fieldsOf(v), sums.Items[n-1])
		}
	}
}

func isAscending(list ...impl.Item) bool {
	return slices.IsSortedFunc(list, impl.CompareNumbers)
}

func TestMeansMediansAndExtremesFitTogether(t *testing.T) {
	source := rand.New(rand.NewPCG(6, 3))
	for range 3000 {
		v := knownVector(source)
		low, high := summarized(t, smallestOf, v), summarized(t, largestOf, v)
		mean, median := summarized(t, impl.MeanOf, v), summarized(t, impl.MedianOf, v)
		if !known(low, high, mean, median) || !isAscending(low, mean, high) || !isAscending(low, median, high) {
			t.Errorf("%s: smallest %v, largest %v, mean %v, median %v", fieldsOf(v), low, high, mean, median)
		}
		if !slices.Contains(v.Items, low) || !slices.Contains(v.Items, high) {
			t.Errorf("%s: smallest %v, largest %v", fieldsOf(v), low, high)
		}
		if impl.MultiplyNumbers(mean, whole(len(v.Items))) != summarized(t, impl.SumOf, v) {
			t.Errorf("%s: mean %v", fieldsOf(v), mean)
		}
		checkHalves(t, v, median)
	}
}

// checkHalves checks that at most half of the elements are on each side of the median.
func checkHalves(t *testing.T, v impl.Vector, median impl.Item) {
	t.Helper()
	counts := map[int]int{}
	for _, x := range v.Items {
		counts[impl.CompareNumbers(x, median)]++
	}
	if counts[-1] != counts[1] && counts[0] == 0 || 2*counts[-1] > len(v.Items) || 2*counts[1] > len(v.Items) {
		t.Errorf("%s: median %v", fieldsOf(v), median)
	}
}

// TestVariancesFitTogether compares with the sum of the squares less the square of the mean for each element.
func TestVariancesFitTogether(t *testing.T) {
	source := rand.New(rand.NewPCG(6, 4))
	for range 3000 {
		v := knownVector(source)
		n := len(v.Items)
		if n < 2 {
			continue
		}
		variance, mean := summarized(t, impl.VarianceOf, v), ratOf(summarized(t, impl.MeanOf, v))
		rest := new(big.Rat).Mul(mean, mean)
		rest.Mul(rest, big.NewRat(int64(-n), 1))
		for _, x := range v.Items {
			rest.Add(rest, new(big.Rat).Mul(ratOf(x), ratOf(x)))
		}
		rest.Quo(rest, big.NewRat(int64(n-1), 1))
		if variance == missingItem() || ratOf(variance).Cmp(rest) != 0 || variance.Num < 0 {
			t.Errorf("%s: variance %v, not %v", fieldsOf(v), variance, rest)
		}
		isConstant := summarized(t, smallestOf, v) == summarized(t, largestOf, v)
		if isConstant != (variance == whole(0)) {
			t.Errorf("%s: variance %v", fieldsOf(v), variance)
		}
	}
}

// TestSummariesOfMovedNumbers adds a number to all elements, multiplies them by one, and reverses them.
func TestSummariesOfMovedNumbers(t *testing.T) {
	source := rand.New(rand.NewPCG(6, 5))
	for range 2000 {
		v, shift, scale := knownVector(source), whole(source.IntN(41)-20), whole(source.IntN(5)+1)
		shifted := operate(t, impl.ArithmeticOf, "+", v, vectorOf(impl.KindNumber, shift))
		scaled := operate(t, impl.ArithmeticOf, "*", v, vectorOf(impl.KindNumber, scale))
		opposite := operate(t, impl.ArithmeticOf, "-", numbers(0), v)
		reversed := vectorOf(impl.KindNumber, slices.Clone(v.Items)...)
		slices.Reverse(reversed.Items)
		for _, call := range []func(impl.Vector, bool) (impl.Vector, string){smallestOf, largestOf, impl.MeanOf, impl.MedianOf} {
			x := summarized(t, call, v)
			if summarized(t, call, shifted) != impl.AddNumbers(x, shift) || summarized(t, call, scaled) != impl.MultiplyNumbers(x, scale) || summarized(t, call, reversed) != x {
				t.Errorf("%s moved by %v and %v", fieldsOf(v), shift, scale)
			}
		}
		if summarized(t, largestOf, opposite) != impl.NegateNumber(summarized(t, smallestOf, v)) {
			t.Errorf("%s: extremes of the opposite numbers", fieldsOf(v))
		}
		x := summarized(t, impl.VarianceOf, v)
		square := impl.MultiplyNumbers(scale, scale)
		if summarized(t, impl.VarianceOf, shifted) != x || summarized(t, impl.VarianceOf, opposite) != x || summarized(t, impl.VarianceOf, scaled) != impl.MultiplyNumbers(x, square) {
			t.Errorf("%s: variance of moved numbers", fieldsOf(v))
		}
	}
}

// TestSummariesOfJoinedVectors compares a summary of two vectors, one behind the other, with those of each, and leaves out missing elements by hand.
func TestSummariesOfJoinedVectors(t *testing.T) {
	source := rand.New(rand.NewPCG(6, 6))
	for range 2000 {
		v, w := knownVector(source), knownVector(source)
		joined := vectorOf(impl.KindNumber, slices.Concat(v.Items, w.Items)...)
		if impl.AddNumbers(summarized(t, impl.SumOf, v), summarized(t, impl.SumOf, w)) != summarized(t, impl.SumOf, joined) {
			t.Errorf("sum of %s", fieldsOf(joined))
		}
		if x := summarized(t, impl.ProductOf, joined); known(x) && impl.MultiplyNumbers(summarized(t, impl.ProductOf, v), summarized(t, impl.ProductOf, w)) != x {
			t.Errorf("product of %s", fieldsOf(joined))
		}
		for _, s := range summaries() {
			holed := impl.Vector{Kind: impl.KindNumber}
			for _, x := range joined.Items {
				holed.Items = append(holed.Items, slices.Repeat([]impl.Item{missingItem()}, source.IntN(2))...)
				holed.Items = append(holed.Items, x)
			}
			got, problem := s.call(holed, true)
			checkResult(t, s.name, got, problem, vectorOf(s.kind, summarized(t, s.call, joined)))
		}
		if impl.NotLogical(logicalOfItem(summarized(t, allTrue, joined))) != logicalOfItem(summarized(t, someTrue, not(t, joined))) {
			t.Errorf("all of %s", fieldsOf(joined))
		}
	}
}

// TestSummariesShareNoMemory also checks that the functions change nothing, not even behind the end of a slice.
func TestSummariesShareNoMemory(t *testing.T) {
	list := append(ordinaryVectors(),
		sample{"numbers in descending order", classed(named(numbers(9, 7, 8, 1), "a", "b", "c", "d"), "e")},
		sample{"numbers and missing ones", gaps(3, 1, 2)},
		sample{"logical values and missing ones", logicals(2, 1, 0, 2)})
	for _, s := range list {
		v := roomy(s.vector)
		before, regions := contentOf(v), regionsOf(v)
		var results []impl.Vector
		for _, f := range summaries() {
			for _, drop := range []bool{false, true} {
				w, _ := f.call(v, drop)
				results = append(results, w)
			}
		}
		w, _ := impl.CumulativeOf(v)
		for _, result := range append(results, w) {
			checkApart(t, s.name, regionsOf(result), regions)
		}
		if contentOf(v) != before {
			t.Errorf("%s: the argument has changed", s.name)
		}
	}
}
