package tests

import (
	"fmt"
	"math/rand/v2"
	"slices"
	"strings"
	"testing"

	"loop.example/g03406/impl"
)

const (
	notFrame      = "not a data frame"
	noColumn      = "no such column"
	columnsDiffer = "columns differ"
)

// framed returns the data frame with the names, which stand between spaces, and the columns.
func framed(names string, columns ...impl.Vector) impl.Vector {
	return classed(named(listOf(columns...), strings.Fields(names)...), "data.frame")
}

func isColumnByText(v impl.Vector) bool {
	isPlain := len(v.Class) == 0 && len(v.Levels) == 0
	return slices.Contains([]int{impl.KindLogical, impl.KindNumber, impl.KindText}, v.Kind) && len(v.Names) == 0 && (isPlain || isFactorByText(v))
}

// isFrameByText takes a vector that is not circular.
func isFrameByText(v impl.Vector) bool {
	if faultOf(v) != "" || v.Kind != impl.KindList || len(v.Class) != 1 || v.Class[0] != "data.frame" {
		return false
	}
	for _, part := range v.Parts {
		if !isColumnByText(part) || len(part.Items) != len(v.Parts[0].Items) {
			return false
		}
	}
	return len(v.Names) == len(v.Parts) && !repeats(v.Names) && !slices.Contains(v.Names, "")
}

func rowsByText(f impl.Vector) int {
	switch {
	case !isFrameByText(f):
		return -1
	case len(f.Parts) == 0:
		return 0
	}
	return len(f.Parts[0].Items)
}

func problemOfColumnsByText(columns []impl.Vector) string {
	if len(columns) > 40 {
		return tooLarge
	}
	rows := 0
	for _, column := range columns {
		switch {
		case faultOf(column) != "":
			return invalidVector
		case column.Kind == impl.KindNull || !isAtomicByText(column):
			return notAtomic
		}
		rows = max(rows, len(column.Items))
	}
	for _, column := range columns {
		if rows > 0 && (len(column.Items) == 0 || rows%len(column.Items) != 0) {
			return unmatchedLengths
		}
	}
	return ""
}

func makeFrameByText(columns []impl.Vector, names []string) (impl.Vector, string) {
	if problem := problemOfColumnsByText(columns); problem != "" {
		return impl.Vector{}, problem
	}
	if len(names) != len(columns) || repeats(names) || slices.Contains(names, "") || longest(names) > 60 {
		return impl.Vector{}, invalidNames
	}
	rows := 0
	for _, column := range columns {
		rows = max(rows, len(column.Items))
	}
	f := classed(named(listOf(), names...), "data.frame")
	for _, column := range columns {
		w := impl.Vector{Kind: column.Kind}
		if isFactorByText(column) {
			w.Class, w.Levels = []string{"factor"}, column.Levels
		}
		for len(w.Items) < rows {
			w.Items = append(w.Items, column.Items...)
		}
		f.Parts = append(f.Parts, w)
	}
	if faultOf(f) != "" {
		return impl.Vector{}, tooLarge
	}
	return f, ""
}

// columnByText returns the column of a data frame with this name, and whether there is one.
func columnByText(f impl.Vector, name string) (impl.Vector, bool) {
	for i, other := range f.Names {
		if other == name {
			return f.Parts[i], true
		}
	}
	return impl.Vector{}, false
}

func columnOfByText(f impl.Vector, name string) (impl.Vector, string) {
	if !isFrameByText(f) {
		return impl.Vector{}, notFrame
	}
	column, ok := columnByText(f, name)
	if !ok {
		return impl.Vector{}, noColumn
	}
	return column, ""
}

func selectRowsByText(f impl.Vector, s impl.Vector) (impl.Vector, string) {
	if !isFrameByText(f) {
		return impl.Vector{}, notFrame
	}
	if _, problem := resolveByText(rowsByText(f), nil, s); problem != "" {
		return impl.Vector{}, problem
	}
	g := classed(named(listOf(), f.Names...), "data.frame")
	for _, column := range f.Parts {
		rows, problem := subsetByText(column, s)
		if problem != "" {
			return impl.Vector{}, problem
		}
		g.Parts = append(g.Parts, rows)
	}
	if faultOf(g) != "" {
		return impl.Vector{}, tooLarge
	}
	return g, ""
}

func selectColumnsByText(f impl.Vector, names []string) (impl.Vector, string) {
	if !isFrameByText(f) {
		return impl.Vector{}, notFrame
	}
	g := classed(named(listOf(), names...), "data.frame")
	for _, name := range names {
		column, ok := columnByText(f, name)
		if !ok {
			return impl.Vector{}, noColumn
		}
		g.Parts = append(g.Parts, column)
	}
	if repeats(names) {
		return impl.Vector{}, invalidNames
	}
	return g, ""
}

func addColumnByText(f impl.Vector, name string, v impl.Vector) (impl.Vector, string) {
	if !isFrameByText(f) {
		return impl.Vector{}, notFrame
	}
	columns, names := slices.Clone(f.Parts), slices.Clone(f.Names)
	for i := range columns {
		if names[i] == name {
			columns[i] = v
		}
	}
	if !slices.Contains(names, name) {
		columns, names = append(columns, v), append(names, name)
	}
	g, problem := makeFrameByText(columns, names)
	if problem == "" && len(f.Parts) > 0 && rowsByText(g) != rowsByText(f) {
		return impl.Vector{}, unmatchedLengths
	}
	return g, problem
}

// joinColumnsByText returns the elements of one column and then those of the other one.
func joinColumnsByText(a impl.Vector, b impl.Vector) (impl.Vector, string) {
	if isFactorByText(a) && isFactorByText(b) {
		return joinByText(a, b)
	}
	if len(a.Levels) > 0 {
		a = plainByText(a)
	}
	if len(b.Levels) > 0 {
		b = plainByText(b)
	}
	if len(a.Items)+len(b.Items) > 40 {
		return impl.Vector{}, tooLarge
	}
	return combineByText([]impl.Vector{a, b}, nil), ""
}

func bindByText(f impl.Vector, g impl.Vector) (impl.Vector, string) {
	if !isFrameByText(f) || !isFrameByText(g) {
		return impl.Vector{}, notFrame
	}
	both := classed(named(listOf(), f.Names...), "data.frame")
	for i, name := range f.Names {
		other, ok := columnByText(g, name)
		if !ok || len(g.Parts) != len(f.Parts) {
			return impl.Vector{}, columnsDiffer
		}
		column, problem := joinColumnsByText(f.Parts[i], other)
		if problem != "" {
			return impl.Vector{}, problem
		}
		both.Parts = append(both.Parts, column)
	}
	switch {
	case len(f.Parts) == 0 && len(g.Parts) > 0:
		return impl.Vector{}, columnsDiffer
	case faultOf(both) != "":
		return impl.Vector{}, tooLarge
	}
	return both, ""
}

// rowPrecedesByText reports whether the row with index i comes before that with index k.
func rowPrecedesByText(columns []impl.Vector, i int, k int, decreasing bool) bool {
	for _, column := range columns {
		if column.Items[i] != column.Items[k] {
			return precedesByText(column, i, k, decreasing)
		}
	}
	return i < k
}

// orderRowsByText counts the rows that come before each one.
func orderRowsByText(f impl.Vector, names []string, decreasing bool) (impl.Vector, string) {
	if !isFrameByText(f) {
		return impl.Vector{}, notFrame
	}
	var columns []impl.Vector
	for _, name := range names {
		column, ok := columnByText(f, name)
		if !ok {
			return impl.Vector{}, noColumn
		}
		columns = append(columns, column)
	}
	positions := make([]int, rowsByText(f))
	for i := range positions {
		place := 0
		for k := range positions {
			if rowPrecedesByText(columns, k, i, decreasing) {
				place++
			}
		}
		positions[place] = i + 1
	}
	return pickedRowsByText(f, positions), ""
}

// pickedRowsByText returns the rows of a data frame at the positions.
func pickedRowsByText(f impl.Vector, positions []int) impl.Vector {
	g := classed(named(listOf(), f.Names...), "data.frame")
	for _, column := range f.Parts {
		g.Parts = append(g.Parts, pickedByText(column, positions))
	}
	return g
}

func completeByText(f impl.Vector) []int {
	var complete []int
	for row := 1; row <= rowsByText(f); row++ {
		if !slices.ContainsFunc(f.Parts, func(column impl.Vector) bool { return column.Items[row-1] == missingItem() }) {
			complete = append(complete, row)
		}
	}
	return complete
}

func checkMade(t *testing.T, columns []impl.Vector, names []string) {
	t.Helper()
	f, problem := impl.MakeFrame(columns, names)
	want, wantedProblem := makeFrameByText(columns, names)
	checkOutcome(t, fmt.Sprintf("frame of %.2000s with %.300q", fieldsOf(listOf(columns...)), names), f, problem, want, wantedProblem)
	if problem == "" && !impl.IsFrame(f) {
		t.Errorf("%s is no data frame", fieldsOf(f))
	}
}

// checkFrame has the functions that take a vector alone, or with a name.
func checkFrame(t *testing.T, f impl.Vector) {
	t.Helper()
	name := fieldsOf(f)
	if got, want := impl.IsFrame(f), isFrameByText(f); got != want {
		t.Errorf("%s: IsFrame is %v", name, got)
	}
	if got, want := impl.RowsOf(f), rowsByText(f); got != want {
		t.Errorf("%s: %d rows, not %d", name, got, want)
	}
	checkPositions(t, "complete rows of "+name, impl.CompleteRows(f), "", completeByText(f), "")
	for _, column := range append(slices.Clone(f.Names), "", "z", "x ", "X", bytesOf(61)) {
		got, problem := impl.ColumnOf(f, column)
		want, wantedProblem := columnOfByText(f, column)
		checkOutcome(t, fmt.Sprintf("column %q of %s", column, name), got, problem, want, wantedProblem)
	}
}

func checkRows(t *testing.T, f impl.Vector, s impl.Vector) {
	t.Helper()
	g, problem := impl.SelectRows(f, s)
	want, wantedProblem := selectRowsByText(f, s)
	checkOutcome(t, "rows "+fieldsOf(s)+" of "+fieldsOf(f), g, problem, want, wantedProblem)
}

// checkColumns also orders the rows by the columns.
func checkColumns(t *testing.T, f impl.Vector, names ...string) {
	t.Helper()
	g, problem := impl.SelectColumns(f, names)
	want, wantedProblem := selectColumnsByText(f, names)
	checkOutcome(t, fmt.Sprintf("columns %.300q of %s", names, fieldsOf(f)), g, problem, want, wantedProblem)
	for _, decreasing := range []bool{false, true} {
		g, problem = impl.OrderRows(f, names, decreasing)
		want, wantedProblem = orderRowsByText(f, names, decreasing)
		checkOutcome(t, fmt.Sprintf("rows of %s by %.300q, decreasing %v", fieldsOf(f), names, decreasing), g, problem, want, wantedProblem)
	}
}

func checkAdded(t *testing.T, f impl.Vector, name string, v impl.Vector) {
	t.Helper()
	g, problem := impl.AddColumn(f, name, v)
	want, wantedProblem := addColumnByText(f, name, v)
	checkOutcome(t, fmt.Sprintf("%s with the column %.100q: %s", fieldsOf(f), name, fieldsOf(v)), g, problem, want, wantedProblem)
}

func checkBound(t *testing.T, f impl.Vector, g impl.Vector) {
	t.Helper()
	both, problem := impl.BindRows(f, g)
	want, wantedProblem := bindByText(f, g)
	checkOutcome(t, fieldsOf(f)+" and "+fieldsOf(g), both, problem, want, wantedProblem)
}

// A making has columns and the frame that MakeFrame is to make of them and its names.
type making struct {
	columns []impl.Vector
	want    impl.Vector
}

func checkMakings(t *testing.T, list []making) {
	t.Helper()
	for _, c := range list {
		f, problem := impl.MakeFrame(c.columns, c.want.Names)
		checkResult(t, "frame of "+fieldsOf(listOf(c.columns...)), f, problem, c.want)
		checkMade(t, c.columns, c.want.Names)
		checkFrame(t, c.want)
	}
}

func columnsOf(list ...impl.Vector) []impl.Vector { return list }

func TestMakeFrameInWords(t *testing.T) {
	checkMakings(t, []making{
		// Each kind.
		{columnsOf(numbers(3, 1, 2)), framed("x", numbers(3, 1, 2))},
		{columnsOf(logicals(1, 2, 0)), framed("b", logicals(1, 2, 0))},
		{columnsOf(holed("u", "-", "")), framed("k", holed("u", "-", ""))},
		{columnsOf(fractions(-1, 2, 0, 0)), framed("x", fractions(-1, 2, 0, 0))},
		{columnsOf(factor(3, 0, 1)), framed("g", factor(3, 0, 1))},
		{columnsOf(coded("c a b", 2)), framed("g", coded("c a b", 2))},
		{columnsOf(numbers(1), texts("u"), logicals(0), factor(2)), framed("x k b g", numbers(1), texts("u"), logicals(0), factor(2))},
		{columnsOf(missing(impl.KindNumber, 2), missing(impl.KindText, 2), logicals(2, 2), factor(0, 0)), framed("x k b g", missing(impl.KindNumber, 2), holed("-", "-"), logicals(2, 2), factor(0, 0))},
		{columnsOf(numbers(1, 2), numbers(1, 2)), framed("a b", numbers(1, 2), numbers(1, 2))},

		// Columns of one and of several elements are recycled.
		{columnsOf(numbers(1, 2), texts("u")), framed("x k", numbers(1, 2), texts("u", "u"))},
		{columnsOf(texts("u"), numbers(1, 2)), framed("k x", texts("u", "u"), numbers(1, 2))},
		{columnsOf(logicals(0, 1), numbersUpTo(6), gaps(7)), framed("b x y", logicals(0, 1, 0, 1, 0, 1), numbersUpTo(6), gaps(7, 7, 7))},
		{columnsOf(holed("a", "-", "b"), factor(2), numbersUpTo(6), numbers(8, 9)), framed("k g x y", holed("a", "-", "b", "a", "-", "b"), factor(2, 2, 2, 2, 2, 2), numbersUpTo(6), numbers(8, 9, 8, 9, 8, 9))},
		{columnsOf(factor(3, 0), numbersUpTo(4)), framed("g x", factor(3, 0, 3, 0), numbersUpTo(4))},
		{columnsOf(missing(impl.KindText, 1), numbers(1, 2, 3)), framed("k x", missing(impl.KindText, 3), numbers(1, 2, 3))},

		// No elements.
		{columnsOf(numbers()), framed("x", numbers())},
		{columnsOf(texts(), factor(), logicals()), framed("k g b", texts(), factor(), logicals())},

		// Names that are no syntactic ones.
		{columnsOf(numbers(1), numbers(2), numbers(3), numbers(4)), framed("if x X <NA>", numbers(1), numbers(2), numbers(3), numbers(4))},
		{columnsOf(numbers(1), numbers(2)), classed(named(listOf(numbers(1), numbers(2)), " ", bytesOf(60)), "data.frame")},
		{columnsOf(numbers(1), numbers(2)), classed(named(listOf(numbers(1), numbers(2)), "\x00", "\xff"), "data.frame")},
	})
	f, problem := impl.MakeFrame(nil, nil)
	checkResult(t, "no columns", f, problem, classed(listOf(), "data.frame"))
}

// TestColumnsWithAttributes has names, which are left out, as Class and Levels are where they do not make a factor.
func TestColumnsWithAttributes(t *testing.T) {
	checkMakings(t, []making{
		{columnsOf(named(numbers(1, 2), "p", "q")), framed("x", numbers(1, 2))},
		{columnsOf(named(texts("u", "v"), "", "q")), framed("k", texts("u", "v"))},
		{columnsOf(named(logicals(1), "x"), numbers(1, 2)), framed("x y", logicals(1, 1), numbers(1, 2))},
		{columnsOf(named(factor(1, 0), "p", "q")), framed("g", factor(1, 0))},
		{columnsOf(classed(numbers(1, 2), "c", "d")), framed("x", numbers(1, 2))},
		{columnsOf(classed(texts("u"), "factor")), framed("k", texts("u"))},
		{columnsOf(classed(logicals(0), "data.frame")), framed("b", logicals(0))},
		{columnsOf(classed(numbers(2), "factor")), framed("x", numbers(2))},
		{columnsOf(classed(named(texts("u"), "p"), "c")), framed("k", texts("u"))},
		{columnsOf(classed(numbers(), "c")), framed("x", numbers())},

		// With Levels alone, or beside another class, the numbers stay.
		{columnsOf(levelled(numbers(2, 1), "a", "b")), framed("x", numbers(2, 1))},
		{columnsOf(levelled(gaps(2), "a", "b"), texts("u", "v")), framed("x k", gaps(2), texts("u", "v"))},
		{columnsOf(levelled(numbers(1), "a"), numbers(7, 8)), framed("x y", numbers(1, 1), numbers(7, 8))},
		{columnsOf(levelled(numbers(), "a")), framed("x", numbers())},
		{columnsOf(classed(factor(3, 0), "factor", "ordered")), framed("x", gaps(3))},
		{columnsOf(classed(factor(3, 0), "ordered", "factor")), framed("x", gaps(3))},
		{columnsOf(classed(factor(2, 2), "Factor")), framed("x", numbers(2, 2))},
		{columnsOf(classed(named(factor(2), "p"), "c")), framed("x", numbers(2))},
	})
}

// notColumns returns valid vectors that are refused as columns.
func notColumns() []impl.Vector {
	return []impl.Vector{
		{}, listOf(), listOf(numbers(1)), listOf(numbers(1), numbers(2)), named(listOf(texts("a")), "a"), classed(listOf(), "factor"), listOf(impl.Vector{}), nested(numbers(1), 3), listOfCells(200),
		framed("x", numbers(1)), framed(""), function(0, 0), function(1, 2), classed(function(1, 2), "factor"),
	}
}

func TestColumnsThatAreRefused(t *testing.T) {
	columns := []impl.Vector{numbers(1, 2), texts("u"), factor(1), logicals()}
	for _, v := range notColumns() {
		name := fieldsOf(v)
		f, problem := impl.MakeFrame(columnsOf(v), []string{"x"})
		checkProblem(t, "frame of "+name, f, problem, notAtomic)
		for i := range columns {
			list := slices.Insert(slices.Clone(columns), i, v)
			f, problem = impl.MakeFrame(list, strings.Fields("a b c d e"))
			checkProblem(t, fmt.Sprintf("column %d: %s", i, name), f, problem, notAtomic)
		}
		f, problem = impl.AddColumn(framed("x", numbers(1)), "x", v)
		checkProblem(t, "replaced by "+name, f, problem, notAtomic)
		f, problem = impl.AddColumn(framed("x", numbers(1)), "y", v)
		checkProblem(t, "added "+name, f, problem, notAtomic)
		f, problem = impl.AddColumn(framed(""), "x", v)
		checkProblem(t, "added to no columns "+name, f, problem, notAtomic)
	}
	// The first column that has one of the two problems counts.
	bad, refused := texts(bytesOf(61)), impl.Vector{}
	for _, c := range []struct {
		columns []impl.Vector
		want    string
	}{
		{columnsOf(refused, bad), notAtomic},
		{columnsOf(bad, refused), invalidVector},
		{columnsOf(numbers(1), function(1, 2), bad), notAtomic},
		{columnsOf(numbers(1), bad, function(1, 2)), invalidVector},
		{columnsOf(listOf(bad), refused), invalidVector},
		{columnsOf(refused, numbers(1), listOf(bad)), notAtomic},
		{columnsOf(listOf(), numbersUpTo(41)), notAtomic},
		{columnsOf(numbersUpTo(41), listOf()), invalidVector},
	} {
		for _, names := range [][]string{nil, {"x"}, {"x", "y"}, {"x", "x"}, {"x", "y", "z"}} {
			f, problem := impl.MakeFrame(c.columns, names)
			checkProblem(t, "frame of "+fieldsOf(listOf(c.columns...)), f, problem, c.want)
			checkMade(t, c.columns, names)
		}
	}
}

// repeated returns a column of this length, of one of the four kinds.
func repeated(kind int, length int) impl.Vector {
	patterns := []impl.Vector{logicals(1, 0, 2), numbers(5, -1, 0), holed("u", "-", "v w"), factor(3, 0, 1)}
	v := patterns[kind%4]
	v.Items = slices.Repeat(v.Items, 15)[:length]
	return v
}

// TestLengthsOfColumns has all pairs of lengths, and triples of small ones.
func TestLengthsOfColumns(t *testing.T) {
	for n := range 42 {
		for m := range 42 {
			columns := columnsOf(repeated(n, n), repeated(m+1, m))
			f, problem := impl.MakeFrame(columns, []string{"a", "b"})
			name := fmt.Sprintf("%d and %d rows", n, m)
			shorter, longer := min(n, m), max(n, m)
			switch {
			case longer == 41:
				checkProblem(t, name, f, problem, invalidVector)
			case longer > 0 && (shorter == 0 || longer%shorter != 0):
				checkProblem(t, name, f, problem, unmatchedLengths)
			case problem != "" || impl.RowsOf(f) != longer:
				t.Errorf("%s: %d, %q", name, impl.RowsOf(f), problem)
			}
			checkMade(t, columns, []string{"a", "b"})
		}
	}
	eachList(numbered(0, 8), 3, func(lengths []int) {
		var columns []impl.Vector
		for i, length := range lengths {
			columns = append(columns, repeated(i, length))
		}
		checkMade(t, columns, namesOf(len(lengths)))
	})
	for _, c := range []struct {
		lengths []int
		rows    int
	}{
		{[]int{2, 3, 6}, 6}, {[]int{2, 3}, -1}, {[]int{2, 3, 4}, -1}, {[]int{4, 6, 12}, 12}, {[]int{4, 6}, -1}, {[]int{1, 1, 1, 40}, 40}, {[]int{5, 8, 40}, 40}, {[]int{5, 8, 39}, -1}, {[]int{0, 0, 0}, 0}, {[]int{0, 0, 1}, -1}, {[]int{1, 0, 1}, -1},
	} {
		var columns []impl.Vector
		for i, length := range c.lengths {
			columns = append(columns, repeated(i, length))
		}
		f, problem := impl.MakeFrame(columns, namesOf(len(columns)))
		if c.rows < 0 {
			checkProblem(t, fmt.Sprintf("lengths %v", c.lengths), f, problem, unmatchedLengths)
		} else if problem != "" || impl.RowsOf(f) != c.rows {
			t.Errorf("lengths %v: %d rows, %q", c.lengths, impl.RowsOf(f), problem)
		}
	}
}

func TestNamesOfFrames(t *testing.T) {
	columns := columnsOf(numbers(1), texts("u"), logicals(1))
	for _, names := range [][]string{
		nil, {"a"}, {"a", "b"}, {"a", "b", "c", "d"}, {"", "", ""}, {"", "b", "c"}, {"a", "", "c"}, {"a", "b", ""}, {"a", "b", "a"}, {"a", "a", "c"}, {"a", "b", "b"}, {"a", "b", "c", ""}, {"a", "b", "c", "a"},
		{bytesOf(61), "b", "c"}, {"a", "b", bytesOf(61)}, {"a", bytesOf(100000), "c"}, distinct(41, 3), distinct(100000, 6), slices.Repeat([]string{"a"}, 100000), make([]string, 41),
	} {
		f, problem := impl.MakeFrame(columns, names)
		checkProblem(t, fmt.Sprintf("frame with %.300q", names), f, problem, invalidNames)
		checkMade(t, columns, names)
		f, problem = impl.MakeFrame(nil, names)
		if len(names) > 0 {
			checkProblem(t, fmt.Sprintf("no columns with %.300q", names), f, problem, invalidNames)
		}
	}
	for length := range 70 {
		f, problem := impl.MakeFrame(columns, []string{"a", bytesOf(length), "c"})
		if length >= 1 && length <= 60 {
			checkResult(t, "a long name", f, problem, classed(named(listOf(columns...), "a", bytesOf(length), "c"), "data.frame"))
		} else {
			checkProblem(t, "a name that is empty or too long", f, problem, invalidNames)
		}
		checkAdded(t, framed("x", numbers(1, 2)), bytesOf(length), numbers(3))
	}
	// Each pair of equal names, of all numbers of columns, and each number of names.
	for count := range 41 {
		list := slices.Repeat(columnsOf(numbers(1)), count)
		for i := range count {
			for k := range i {
				names := namesOf(count)
				names[i] = names[k]
				f, problem := impl.MakeFrame(list, names)
				checkProblem(t, fmt.Sprintf("equal names %q", names), f, problem, invalidNames)
			}
		}
		for names := range 42 {
			f, problem := impl.MakeFrame(list, namesOf(names))
			if names == count {
				checkResult(t, fmt.Sprintf("%d columns", count), f, problem, classed(named(listOf(list...), namesOf(count)...), "data.frame"))
			} else {
				checkProblem(t, fmt.Sprintf("%d columns with %d names", count, names), f, problem, invalidNames)
			}
		}
	}
}

// TestSizesOfFrames has all numbers of columns and rows: there are at most 40 of both, and 200 cells.
func TestSizesOfFrames(t *testing.T) {
	largest := 0
	for count := range 43 {
		for rows := range 41 {
			var columns []impl.Vector
			for i := range count {
				columns = append(columns, repeated(i, rows))
			}
			f, problem := impl.MakeFrame(columns, namesOf(count))
			name := fmt.Sprintf("%d columns of %d rows", count, rows)
			if count > 40 || count+count*rows > 200 {
				checkProblem(t, name, f, problem, tooLarge)
				continue
			}
			checkResult(t, name, f, problem, classed(named(listOf(columns...), namesOf(count)...), "data.frame"))
			if count+count*rows == 200 {
				largest++
			}
		}
	}
	// 5 of 39, 8 of 24, 10 of 19, 20 of 9, 25 of 7 and 40 of 4.
	if largest != 6 {
		t.Errorf("%d frames of 200 cells", largest)
	}
	// A column of one element has as many cells as the others when it is recycled.
	f, problem := impl.MakeFrame(append(slices.Repeat(columnsOf(numbers(1)), 4), numbersUpTo(40)), namesOf(5))
	checkProblem(t, "recycled to 205 cells", f, problem, tooLarge)
	f, problem = impl.MakeFrame(append(slices.Repeat(columnsOf(numbers(1)), 4), numbersUpTo(39)), namesOf(5))
	if problem != "" || cellsByText(f) != 200 {
		t.Errorf("recycled to 200 cells: %s, %q", fieldsOf(f), problem)
	}
	for _, count := range []int{41, 42, 1000, 100000} {
		for _, v := range []impl.Vector{numbers(1), {}, texts(bytesOf(61)), numbers(), circular()} {
			f, problem = impl.MakeFrame(slices.Repeat(columnsOf(v), count), nil)
			checkProblem(t, fmt.Sprintf("%d columns", count), f, problem, tooLarge)
			f, problem = impl.MakeFrame(slices.Repeat(columnsOf(v), count), distinct(count, 6))
			checkProblem(t, fmt.Sprintf("%d columns with names", count), f, problem, tooLarge)
		}
	}
}

// someFrames returns data frames of all shapes.
func someFrames() []impl.Vector {
	wide, long := framed(""), framed("a b c d e", numbersUpTo(39), repeated(0, 39), repeated(2, 39), repeated(3, 39), repeated(1, 39))
	for _, name := range distinct(40, 60) {
		wide.Parts, wide.Names = append(wide.Parts, repeated(len(wide.Parts), 4)), append(wide.Names, name)
	}
	return []impl.Vector{
		framed(""), framed("x", numbers()), framed("x k b g", numbers(), texts(), logicals(), factor()),
		framed("x", numbers(1)), framed("g", factor(2)), framed("x k", numbers(3, 1, 2), texts("u", "v", "u")), framed("k x", texts("u", "v", "u"), numbers(3, 1, 2)),
		framed("x k b g", gaps(2, 1), holed("v", "u", "-", "u"), logicals(0, 2, 1, 0), factor(3, 1, 0, 1)), framed("g", coded("u w v", 3, 0, 1)), framed("k", holed("-", "v")),
		framed("x y", numbersUpTo(40), repeated(1, 40)), framed("if ` x.y", fractions(1, 2, 1, 3), missing(impl.KindLogical, 2), missing(impl.KindText, 2)),
		wide, long,
	}
}

// almostFrames returns valid vectors that differ from a data frame in one way.
func almostFrames() []impl.Vector {
	list := named(listOf(numbers(1, 2), texts("u", "v")), "x", "k")
	frame := framed("x k", list.Parts...)
	return []impl.Vector{
		// No class, another one, and further ones.
		list, classed(list, "data"), classed(list, "data.frame "), classed(list, "Data.frame"), classed(list, "factor"), classed(list, "data.frames"), classed(list, "list"),
		classed(list, "data.frame", "c"), classed(list, "c", "data.frame"), classed(list, "a", "data.frame", "b"), listOf(), classed(listOf(), "frame"), classed(listOf(), "data.frame", "c"),
		// Names that are missing, empty or equal.
		named(frame), named(frame, "x", ""), named(frame, "", "k"), named(frame, "x", "x"), framed("", numbers(1)), framed("", numbers()), framed("a b a", numbers(1), numbers(2), numbers(1)),
		classed(named(listOf(numbers(1), numbers(2), numbers(3)), "", "b", ""), "data.frame"),
		// Parts with names.
		framed("x", named(numbers(1), "a")), framed("x k", numbers(1, 2), named(texts("u", "v"), "p", "")), framed("g", named(factor(1), "p")),
		// Parts of different lengths.
		framed("x k", numbers(1, 2), texts("u")), framed("x k", numbers(1), texts("u", "v")), framed("x k", numbers(), texts("u")), framed("x k", numbers(1), texts()), framed("x k b", numbers(1), texts("u"), logicals(0, 1)),
		framed("x y z", numbersUpTo(3), numbersUpTo(4), numbersUpTo(3)), framed("x y", numbersUpTo(40), numbersUpTo(39)), framed("x y", numbersUpTo(2), numbersUpTo(4)),
		// Parts with a Class or Levels that are no factors.
		framed("x", classed(numbers(1), "c")), framed("x", classed(numbers(1), "factor")), framed("k", classed(texts("u"), "factor")), framed("b", classed(logicals(1), "c")), framed("x", classed(numbers(), "numeric")),
		framed("x", levelled(numbers(1), "a")), framed("x", levelled(numbers(), "a")), framed("x", classed(factor(1), "factor", "c")), framed("x", classed(factor(1), "c", "factor")), framed("x", classed(factor(1), "c")),
		framed("x y", numbers(1), classed(numbers(2), "c")), framed("x y", factor(1), withoutClass(factor(1))),
		// Parts of other kinds.
		framed("x", impl.Vector{}), framed("x y", impl.Vector{}, impl.Vector{}), framed("x y", numbers(), impl.Vector{}), framed("x", listOf()), framed("x", listOf(numbers(1))), framed("x y", numbers(1), listOf(numbers(1))),
		framed("f", function(1, 2)), framed("x f", numbers(1), function(1, 2)), framed("x", framed("y", numbers(1))), framed("x", framed("")), framed("x y", numbers(), listOf()),
		// Other vectors.
		{}, numbers(), numbers(1), classed(numbers(), "data.frame"), classed(numbers(1), "data.frame"), classed(named(numbers(1), "x"), "data.frame"), classed(texts("x"), "data.frame"), classed(logicals(1), "data.frame"),
		classed(factor(1), "data.frame"), factor(1), texts("data.frame"), function(1, 2), classed(function(1, 2), "data.frame"), listOf(framed("x", numbers(1))),
	}
}

// spoiltFrames returns invalid vectors that look like data frames.
func spoiltFrames() []impl.Vector {
	frame := framed("x k", numbers(1, 2), texts("u", "v"))
	list := []impl.Vector{
		classed(frame, "data.frame", "data.frame"), classed(frame, "data.frame", ""), classed(frame, "data.frame", "a", "b", "c"), named(frame, "x"), named(frame, "x", "y", "z"), named(frame, "", ""), named(frame, "x", bytesOf(61)),
		named(framed(""), "x"), levelled(frame, "a"), levelled(framed(""), "a"), framed("x", factor(4)), framed("x", numbers(1000000000)), framed("b", vectorOf(impl.KindLogical, whole(2))), framed("k", texts(bytesOf(61))),
		framed("x", numbersUpTo(41)), framed("x y", numbersUpTo(41), numbersUpTo(41)), framed("a b c d e", slices.Repeat(columnsOf(numbersUpTo(40)), 5)...), framed("x", coded("a a", 1)), framed("x", named(numbers(1), "")),
		framed("x", nested(numbers(1), 3)), framed("x", circular()), framed("x", impl.Vector{Kind: 6}),
	}
	for _, count := range []int{41, 42} {
		many := framed("", slices.Repeat(columnsOf(numbers()), count)...)
		many.Names = distinct(count, 3)
		list = append(list, many)
	}
	for _, change := range []func(v *impl.Vector){
		func(v *impl.Vector) { v.Code = 1 }, func(v *impl.Vector) { v.Env = 1 }, func(v *impl.Vector) { v.Items = []impl.Item{{}} }, func(v *impl.Vector) { v.Kind = impl.KindNull }, func(v *impl.Vector) { v.Kind = impl.KindNumber }, func(v *impl.Vector) { v.Kind = -1 },
	} {
		for _, v := range []impl.Vector{frame, framed("")} {
			change(&v)
			list = append(list, v)
		}
	}
	return list
}

func TestIsFrame(t *testing.T) {
	for _, f := range someFrames() {
		if !impl.IsFrame(f) {
			t.Errorf("%s is no data frame", fieldsOf(f))
		}
		checkFrame(t, f)
	}
	for _, v := range almostFrames() {
		if fault := faultOf(v); fault != "" {
			t.Errorf("%s is invalid: %s", fieldsOf(v), fault)
		}
		checkFrame(t, v)
	}
	for _, bad := range invalidVectors() {
		checkNoFrame(t, bad.name, bad.vector)
	}
	for i, v := range append(almostFrames(), spoiltFrames()...) {
		checkNoFrame(t, fmt.Sprintf("vector %d that is almost a frame", i), v)
	}
}

// checkNoFrame has all functions that take data frames: v, which may be circular, is none.
func checkNoFrame(t *testing.T, name string, v impl.Vector) {
	t.Helper()
	if impl.IsFrame(v) {
		t.Errorf("%s is a data frame", name)
	}
	if rows := impl.RowsOf(v); rows != -1 {
		t.Errorf("%s has %d rows", name, rows)
	}
	if list := impl.CompleteRows(v); len(list) > 0 {
		t.Errorf("%s has the complete rows %v", name, list)
	}
	check := func(w impl.Vector, problem string) {
		t.Helper()
		checkProblem(t, name, w, problem, notFrame)
	}
	for _, column := range []string{"x", "k", "a", "z", ""} {
		check(impl.ColumnOf(v, column))
		for _, other := range []impl.Vector{numbers(1, 2), texts("u"), {}, listOf(), numbersUpTo(41), circular()} {
			check(impl.AddColumn(v, column, other))
		}
	}
	for _, s := range []impl.Vector{numbers(1), {}, logicals(1), fractions(1, 2), numbers(41), listOf(), numbersUpTo(41), circular()} {
		check(impl.SelectRows(v, s))
	}
	for _, names := range [][]string{nil, {"x"}, {"k", "x"}, {"x", "x"}, {"z"}, {""}} {
		check(impl.SelectColumns(v, names))
		check(impl.OrderRows(v, names, false))
		check(impl.OrderRows(v, names, true))
	}
	for _, f := range someFrames() {
		check(impl.BindRows(v, f))
		check(impl.BindRows(f, v))
	}
	check(impl.BindRows(v, v))
}

func TestColumnOfInWords(t *testing.T) {
	f := framed("x k b g", gaps(2), holed("u", "-"), logicals(0, 2), factor(3, 0))
	for _, c := range []struct {
		name string
		want impl.Vector
	}{{"x", gaps(2)}, {"k", holed("u", "-")}, {"b", logicals(0, 2)}, {"g", factor(3, 0)}} {
		v, problem := impl.ColumnOf(f, c.name)
		checkResult(t, "column "+c.name, v, problem, c.want)
	}
	// Only an equal name counts.
	for _, name := range []string{"", "X", "x ", " x", "xk", "g\x00", "data.frame", "1", "<NA>", bytesOf(61), bytesOf(100000)} {
		v, problem := impl.ColumnOf(f, name)
		checkProblem(t, fmt.Sprintf("column %.100q", name), v, problem, noColumn)
	}
	for _, c := range []struct {
		f    impl.Vector
		name string
	}{{framed("alpha", numbers(1)), "al"}, {framed("alpha", numbers(1)), "alphabet"}, {framed(""), "x"}, {framed(""), ""}, {framed("x", numbers()), "y"}} {
		v, problem := impl.ColumnOf(c.f, c.name)
		checkProblem(t, c.name+" of "+fieldsOf(c.f), v, problem, noColumn)
	}
}

func TestSelectRowsInWords(t *testing.T) {
	f := framed("x k b g", numbers(3, 1, 2), texts("u", "v", "w"), logicals(0, 1, 2), factor(3, 0, 1))
	none := framed("x k b g", numbers(), texts(), logicals(), factor())
	for _, c := range []struct{ s, want impl.Vector }{
		{numbers(1, 2, 3), f},
		{numbers(2), framed("x k b g", numbers(1), texts("v"), logicals(1), factor(0))},
		{numbers(3, 1), framed("x k b g", numbers(2, 3), texts("w", "u"), logicals(2, 0), factor(1, 3))},
		{numbers(1, 1, 2, 1), framed("x k b g", numbers(3, 3, 1, 3), texts("u", "u", "v", "u"), logicals(0, 0, 1, 0), factor(3, 3, 0, 3))},
		{numbers(0, 3, 0), framed("x k b g", numbers(2), texts("w"), logicals(2), factor(1))},
		{named(classed(numbers(3), "c"), "p"), framed("x k b g", numbers(2), texts("w"), logicals(2), factor(1))},
		{factor(2, 1), framed("x k b g", numbers(1, 3), texts("v", "u"), logicals(1, 0), factor(0, 3))},

		{numbers(-1), framed("x k b g", numbers(1, 2), texts("v", "w"), logicals(1, 2), factor(0, 1))},
		{numbers(-3, -1, -3), framed("x k b g", numbers(1), texts("v"), logicals(1), factor(0))},
		{numbers(-4, 0), f},
		{numbers(-1, -2, -3), none},

		{logicals(1), f},
		{logicals(0, 1, 0), framed("x k b g", numbers(1), texts("v"), logicals(1), factor(0))},
		{logicals(1, 0), framed("x k b g", numbers(3, 2), texts("u", "w"), logicals(0, 2), factor(3, 1))},
		{logicals(0, 2), framed("x k b g", missing(impl.KindNumber, 1), holed("-"), logicals(2), factor(0))},
		{logicals(0, 0, 0, 1), framed("x k b g", missing(impl.KindNumber, 1), holed("-"), logicals(2), factor(0))},

		// Missing rows, and those behind the last one.
		{gaps(2), framed("x k b g", gaps(1), holed("v", "-"), logicals(1, 2), factor(0, 0))},
		{numbers(4, 1, 40), framed("x k b g", vectorOf(impl.KindNumber, missingItem(), whole(3), missingItem()), holed("-", "u", "-"), logicals(2, 0, 2), factor(0, 3, 0))},
		{missing(impl.KindText, 2), framed("x k b g", missing(impl.KindNumber, 2), holed("-", "-"), logicals(2, 2), factor(0, 0))},
		// Rows have no names: each string is unknown, also that of a column.
		{texts("x", "1", "x"), framed("x k b g", missing(impl.KindNumber, 3), holed("-", "-", "-"), logicals(2, 2, 2), factor(0, 0, 0))},

		{impl.Vector{}, none},
		{numbers(), none},
		{numbers(0), none},
		{logicals(), none},
		{logicals(0), none},
		{texts(), none},
	} {
		g, problem := impl.SelectRows(f, c.s)
		checkResult(t, "rows "+fieldsOf(c.s), g, problem, c.want)
		checkRows(t, f, c.s)
		checkFrame(t, c.want)
	}
}

// TestEachSubscriptOfRows has all kinds of subscripts for all frames, also those with problems.
func TestEachSubscriptOfRows(t *testing.T) {
	for _, f := range someFrames() {
		for _, bad := range badSubscripts() {
			g, problem := impl.SelectRows(f, bad.s)
			checkProblem(t, "rows "+fieldsOf(bad.s)+" of "+fieldsOf(f), g, problem, bad.want)
			g, problem = impl.SelectRows(classed(f), bad.s)
			checkProblem(t, "rows "+fieldsOf(bad.s)+" of a list", g, problem, notFrame)
		}
		for _, s := range subscriptsOf(rowsByText(f), nil) {
			checkRows(t, f, s)
		}
		for _, s := range ordinaryVectors() {
			checkRows(t, f, s.vector)
		}
	}
	eachList([]impl.Item{whole(0), whole(1), whole(2), whole(3), whole(-1), whole(-2), whole(41), ratio(1, 2), missingItem()}, 3, func(list []impl.Item) {
		checkRows(t, framed(""), vectorOf(impl.KindNumber, list...))
		checkRows(t, framed("x g", gaps(7), factor(2, 1)), vectorOf(impl.KindNumber, list...))
	})
	eachList([]impl.Item{whole(0), whole(1), missingItem()}, 5, func(list []impl.Item) {
		checkRows(t, framed(""), vectorOf(impl.KindLogical, list...))
		checkRows(t, framed("k g", holed("u", "-", "w"), factor(3, 2, 1)), vectorOf(impl.KindLogical, list...))
	})
}

// equalColumns returns a frame of columns that all are v.
func equalColumns(count int, v impl.Vector) impl.Vector {
	f := framed("", slices.Repeat(columnsOf(v), count)...)
	f.Names = namesOf(count)
	return f
}

// TestSizesOfSelectedRows has one row several times, and rows behind it.
func TestSizesOfSelectedRows(t *testing.T) {
	for count := range 41 {
		for rows := range 41 {
			again, behind := slices.Repeat([]int{1}, rows), slices.Repeat([]int{2}, rows)
			for _, c := range []struct{ s, want impl.Vector }{
				{numbers(again...), texts(slices.Repeat([]string{"u"}, rows)...)},
				{numbers(behind...), missing(impl.KindText, rows)},
				{missing(impl.KindNumber, rows), missing(impl.KindText, rows)},
			} {
				g, problem := impl.SelectRows(equalColumns(count, texts("u")), c.s)
				name := fmt.Sprintf("%d columns of %d rows", count, rows)
				if count+count*rows > 200 {
					checkProblem(t, name, g, problem, tooLarge)
				} else {
					checkResult(t, name, g, problem, equalColumns(count, c.want))
				}
				g, problem = impl.SelectRows(classed(equalColumns(count, texts("u")), "c"), c.s)
				checkProblem(t, "no frame, "+name, g, problem, notFrame)
			}
		}
	}
}

func TestSelectColumnsInWords(t *testing.T) {
	x, k, b, g := gaps(2), holed("u", "-"), logicals(0, 2), factor(3, 0)
	f := framed("x k b g", x, k, b, g)
	for _, want := range []impl.Vector{
		f, framed("g b k x", g, b, k, x), framed("k g x b", k, g, x, b), framed("x b", x, b), framed("b x", b, x), framed("g", g), framed("k", k), framed(""),
	} {
		got, problem := impl.SelectColumns(f, want.Names)
		checkResult(t, fmt.Sprintf("columns %q", want.Names), got, problem, want)
		checkColumns(t, f, want.Names...)
	}
	for _, names := range [][]string{{"z"}, {""}, {"x", "z"}, {"z", "x"}, {"X"}, {"x", "k", "b", "g", "z"}, {"x", ""}, {bytesOf(61)}, {"x", "x", "z"}, {"z", "z"}, {"z", "x", "x"}, distinct(100000, 6), append(slices.Repeat([]string{"x"}, 100000), "z")} {
		got, problem := impl.SelectColumns(f, names)
		checkProblem(t, fmt.Sprintf("columns %.100q", names), got, problem, noColumn)
		got, problem = impl.OrderRows(f, names, false)
		checkProblem(t, fmt.Sprintf("rows by %.100q", names), got, problem, noColumn)
	}
	for _, names := range [][]string{{"x", "x"}, {"x", "k", "x"}, {"k", "x", "x"}, {"g", "g", "k", "k"}, {"x", "k", "b", "g", "x"}, slices.Repeat([]string{"x"}, 40), slices.Repeat([]string{"x"}, 41), slices.Repeat([]string{"x", "k"}, 50000)} {
		got, problem := impl.SelectColumns(f, names)
		checkProblem(t, fmt.Sprintf("columns %.100q", names), got, problem, invalidNames)
	}
	for _, f := range someFrames() {
		eachList(append(f.Names[:min(3, len(f.Names)):min(3, len(f.Names))], "z", ""), 3, func(names []string) { checkColumns(t, f, names...) })
		checkColumns(t, f, f.Names...)
		backwards := slices.Clone(f.Names)
		slices.Reverse(backwards)
		checkColumns(t, f, backwards...)
		checkColumns(t, f, append(backwards, backwards...)...)
	}
}

func TestAddColumnInWords(t *testing.T) {
	f := framed("x k", numbers(3, 1), texts("u", "v"))
	for _, c := range []struct {
		name    string
		v, want impl.Vector
	}{
		// A column replaced.
		{"x", numbers(7, 8), framed("x k", numbers(7, 8), texts("u", "v"))},
		{"k", numbers(7, 8), framed("x k", numbers(3, 1), numbers(7, 8))},
		{"x", texts("a", "b"), framed("x k", texts("a", "b"), texts("u", "v"))},
		{"x", factor(0, 3), framed("x k", factor(0, 3), texts("u", "v"))},
		{"k", logicals(1), framed("x k", numbers(3, 1), logicals(1, 1))},
		{"x", missing(impl.KindNumber, 1), framed("x k", missing(impl.KindNumber, 2), texts("u", "v"))},
		// A column appended.
		{"y", numbers(7, 8), framed("x k y", numbers(3, 1), texts("u", "v"), numbers(7, 8))},
		{"X", texts("a"), framed("x k X", numbers(3, 1), texts("u", "v"), texts("a", "a"))},
		{"if", factor(2), framed("x k if", numbers(3, 1), texts("u", "v"), factor(2, 2))},
		{"b", logicals(2, 1), framed("x k b", numbers(3, 1), texts("u", "v"), logicals(2, 1))},
		// Attributes are left out.
		{"x", classed(named(numbers(7, 8), "p", "q"), "c"), framed("x k", numbers(7, 8), texts("u", "v"))},
		{"y", levelled(named(numbers(1), "y"), "a"), framed("x k y", numbers(3, 1), texts("u", "v"), numbers(1, 1))},
		{"y", named(factor(2, 1), "p", "q"), framed("x k y", numbers(3, 1), texts("u", "v"), factor(2, 1))},
	} {
		g, problem := impl.AddColumn(f, c.name, c.v)
		checkResult(t, c.name+": "+fieldsOf(c.v), g, problem, c.want)
		checkAdded(t, f, c.name, c.v)
		checkFrame(t, c.want)
	}
	// The number of rows would change: all columns that stay, or the only one, could be recycled or not.
	for _, c := range []struct {
		f    impl.Vector
		name string
		v    impl.Vector
	}{
		{f, "x", numbers(1, 2, 3)}, {f, "x", numbersUpTo(4)}, {f, "y", numbersUpTo(4)}, {f, "y", numbers(1, 2, 3)}, {f, "x", numbers()}, {f, "y", texts()}, {f, "y", numbersUpTo(40)},
		{framed("x", numbers(1, 2)), "x", numbers(1)}, {framed("x", numbers(1, 2)), "x", numbers(1, 2, 3)}, {framed("x", numbers(1, 2)), "x", numbersUpTo(4)}, {framed("x", numbers(1, 2)), "x", numbers()},
		{framed("x", numbers(1)), "x", numbers(1, 2)}, {framed("x", numbers(1)), "y", numbers(1, 2)}, {framed("x", numbers(1)), "y", numbers()},
		{framed("x", numbers()), "x", numbers(1)}, {framed("x", numbers()), "y", numbers(1)}, {framed("x k", numbers(), texts()), "k", numbers(1)},
	} {
		g, problem := impl.AddColumn(c.f, c.name, c.v)
		checkProblem(t, fieldsOf(c.f)+" with "+c.name+": "+fieldsOf(c.v), g, problem, unmatchedLengths)
		checkAdded(t, c.f, c.name, c.v)
	}
	// One element replaces a column of one row, and no elements one of none.
	g, problem := impl.AddColumn(framed("x", numbers(1)), "x", texts("u"))
	checkResult(t, "one row", g, problem, framed("x", texts("u")))
	g, problem = impl.AddColumn(framed("x", numbers()), "x", texts())
	checkResult(t, "no rows", g, problem, framed("x", texts()))
}

// TestLengthsOfAddedColumns has all pairs of the number of rows and the length of a column that is replaced or appended.
func TestLengthsOfAddedColumns(t *testing.T) {
	for rows := range 41 {
		frames := []impl.Vector{framed("x", repeated(rows, rows)), framed("x y", repeated(rows, rows), repeated(rows+1, rows))}
		for length := range 42 {
			for _, f := range frames {
				for _, name := range []string{"x", "y", "z"} {
					v := repeated(length, length)
					g, problem := impl.AddColumn(f, name, v)
					label := fmt.Sprintf("%d rows, %d elements", rows, length)
					switch {
					case length == 41:
						checkProblem(t, label, g, problem, invalidVector)
					case length == rows || length > 0 && rows%length == 0 && rows > 0 && (len(f.Parts) > 1 || name != "x"):
						if problem != "" || impl.RowsOf(g) != rows {
							t.Errorf("%s: %s, %q", label, fieldsOf(g), problem)
						}
					default:
						checkProblem(t, label, g, problem, unmatchedLengths)
					}
					checkAdded(t, f, name, v)
				}
			}
		}
	}
}

// TestSizesOfAddedColumns has all numbers of columns and rows, with a column replaced and one more.
func TestSizesOfAddedColumns(t *testing.T) {
	for count := range 41 {
		for rows := range 41 {
			f, v := equalColumns(count, repeated(2, rows)), repeated(3, rows)
			if count+count*rows > 200 {
				continue
			}
			g, problem := impl.AddColumn(f, "z", v)
			name := fmt.Sprintf("%d columns of %d rows", count, rows)
			if count == 40 || (count+1)*(rows+1) > 200 {
				checkProblem(t, name+" and one more", g, problem, tooLarge)
			} else {
				want := equalColumns(count+1, repeated(2, rows))
				want.Parts[count], want.Names[count] = v, "z"
				checkResult(t, name+" and one more", g, problem, want)
			}
			if count > 0 {
				g, problem = impl.AddColumn(f, f.Names[count-1], v)
				want := equalColumns(count, repeated(2, rows))
				want.Parts[count-1] = v
				checkResult(t, name+", of which one is replaced", g, problem, want)
			}
		}
	}
	// Too many columns are refused before any of them is examined, and whatever their names are.
	for _, f := range []impl.Vector{equalColumns(40, numbers(1, 2)), equalColumns(40, texts())} {
		for _, v := range []impl.Vector{numbers(1, 2, 3), {}, listOf(), texts(bytesOf(61)), circular(), numbers()} {
			for _, name := range []string{"z", "", bytesOf(61)} {
				g, problem := impl.AddColumn(f, name, v)
				checkProblem(t, "41 columns", g, problem, tooLarge)
			}
		}
	}
}

func TestBindRowsInWords(t *testing.T) {
	for _, c := range []struct{ f, g, want impl.Vector }{
		{framed("x", numbers(3, 1)), framed("x", numbers(2)), framed("x", numbers(3, 1, 2))},
		{framed("x k", numbers(3), texts("u")), framed("x k", numbers(1, 2), texts("v", "w")), framed("x k", numbers(3, 1, 2), texts("u", "v", "w"))},
		{framed("b", logicals(1, 2)), framed("b", logicals(0)), framed("b", logicals(1, 2, 0))},
		{framed("x", gaps(1)), framed("x", gaps(2)), framed("x", gaps(1, 2))},

		// The columns of the second one stand in another order.
		{framed("x k", numbers(3), texts("u")), framed("k x", texts("v", "w"), numbers(1, 2)), framed("x k", numbers(3, 1, 2), texts("u", "v", "w"))},
		{framed("a b c", numbers(1), numbers(2), numbers(3)), framed("c a b", numbers(6), numbers(4), numbers(5)), framed("a b c", numbers(1, 4), numbers(2, 5), numbers(3, 6))},

		// Different kinds.
		{framed("x", logicals(1, 2)), framed("x", numbers(7)), framed("x", vectorOf(impl.KindNumber, whole(1), missingItem(), whole(7)))},
		{framed("x", numbers(7)), framed("x", logicals(0, 1)), framed("x", numbers(7, 0, 1))},
		{framed("x", numbers(7)), framed("x", texts("u")), framed("x", texts("7", "u"))},
		{framed("x", holed("u", "-")), framed("x", fractions(-1, 2)), framed("x", holed("u", "-", "-1/2"))},
		{framed("x", logicals(1, 2)), framed("x", texts("u")), framed("x", holed("TRUE", "-", "u"))},
		{framed("x y", logicals(1), numbers(2)), framed("y x", logicals(0), texts("v")), framed("x y", texts("TRUE", "v"), numbers(2, 0))},
		{framed("x", logicals()), framed("x", numbers(1)), framed("x", numbers(1))},
		{framed("x", texts()), framed("x", numbers(1)), framed("x", texts("1"))},
		{framed("x", numbers(1)), framed("x", texts()), framed("x", texts("1"))},

		// Factors on both sides.
		{framed("g", factor(3, 0)), framed("g", factor(1)), framed("g", factor(3, 0, 1))},
		{framed("g", coded("a b", 2, 1)), framed("g", coded("b c", 1, 2)), framed("g", coded("a b c", 2, 1, 2, 3))},
		{framed("g", coded("10 9", 1)), framed("g", coded("1 9", 0, 2)), framed("g", coded("10 9 1", 1, 0, 2))},
		{framed("g", factor()), framed("g", coded("z", 1)), framed("g", coded("low mid high z", 4))},
		// A factor on one side only is taken plain.
		{framed("g", factor(3, 0)), framed("g", texts("u")), framed("g", holed("high", "-", "u"))},
		{framed("g", texts("u")), framed("g", factor(3, 0)), framed("g", holed("u", "high", "-"))},
		{framed("g", factor(2)), framed("g", numbers(1)), framed("g", texts("mid", "1"))},
		{framed("g", numbers(1)), framed("g", coded("7 8", 2)), framed("g", texts("1", "8"))},
		{framed("g", logicals(1)), framed("g", factor(1)), framed("g", texts("TRUE", "low"))},
		{framed("g", factor()), framed("g", numbers(1)), framed("g", texts("1"))},
		{framed("g", numbers(1)), framed("g", factor()), framed("g", texts("1"))},
		{framed("g x", factor(1), numbers(2)), framed("x g", factor(3), factor(2)), framed("g x", factor(1, 2), texts("2", "high"))},

		// No rows, and no columns.
		{framed("x k", numbers(), texts()), framed("k x", texts("u"), numbers(1)), framed("x k", numbers(1), texts("u"))},
		{framed("x k", numbers(1), texts("u")), framed("k x", texts(), numbers()), framed("x k", numbers(1), texts("u"))},
		{framed("x", numbers()), framed("x", numbers()), framed("x", numbers())},
		{framed(""), framed(""), framed("")},
	} {
		both, problem := impl.BindRows(c.f, c.g)
		checkResult(t, fieldsOf(c.f)+" and "+fieldsOf(c.g), both, problem, c.want)
		checkBound(t, c.f, c.g)
		checkBound(t, c.g, c.f)
		checkFrame(t, c.want)
	}
}

// TestColumnsThatDiffer has columns that are missing, that are more, and both, in both directions.
func TestColumnsThatDiffer(t *testing.T) {
	f := framed("x k", numbers(1), texts("u"))
	for _, g := range []impl.Vector{
		framed(""), framed("x", numbers(1)), framed("k", texts("u")), framed("z", numbers(1)), framed("x y", numbers(1), texts("u")), framed("y k", numbers(1), texts("u")), framed("k y", texts("u"), numbers(1)),
		framed("X k", numbers(1), texts("u")), framed("a b", numbers(1), texts("u")), framed("x k y", numbers(1), texts("u"), numbers(1)), framed("y k x", numbers(1), texts("u"), numbers(1)), framed("a b c", numbers(), numbers(), numbers()),
		framed("xx k", numbers(1), texts("u")), equalColumns(40, numbers(1)),
	} {
		for _, pair := range [][2]impl.Vector{{f, g}, {g, f}} {
			both, problem := impl.BindRows(pair[0], pair[1])
			checkProblem(t, fieldsOf(pair[0])+" and "+fieldsOf(pair[1]), both, problem, columnsDiffer)
			checkBound(t, pair[0], pair[1])
		}
	}
	// All pairs of sets of names.
	sets := [][]string{}
	for _, names := range [][]string{{"a", "b", "c"}, {"c", "b", "a"}, {"b", "c", "a"}} {
		eachList(names, 3, func(list []string) {
			if !repeats(list) {
				sets = append(sets, list)
			}
		})
	}
	for _, first := range sets {
		for _, second := range sets {
			f, g := named(equalColumns(len(first), numbers(1)), first...), named(equalColumns(len(second), texts("u")), second...)
			both, problem := impl.BindRows(f, g)
			same := slices.Equal(slices.Sorted(slices.Values(first)), slices.Sorted(slices.Values(second)))
			if same {
				checkResult(t, fmt.Sprintf("%q and %q", first, second), both, problem, named(equalColumns(len(first), texts("1", "u")), first...))
			} else {
				checkProblem(t, fmt.Sprintf("%q and %q", first, second), both, problem, columnsDiffer)
			}
		}
	}
}

// TestSizesOfBoundFrames has all pairs of numbers of rows, and frames of up to 200 cells.
func TestSizesOfBoundFrames(t *testing.T) {
	for n := range 41 {
		for m := range 41 {
			for kind := range 4 {
				f, g := framed("x", repeated(kind, n)), framed("x", repeated(kind+n%2, m))
				both, problem := impl.BindRows(f, g)
				if n+m > 40 {
					checkProblem(t, fmt.Sprintf("%d and %d rows", n, m), both, problem, tooLarge)
				} else if problem != "" || impl.RowsOf(both) != n+m {
					t.Errorf("%d and %d rows: %s, %q", n, m, fieldsOf(both), problem)
				}
				checkBound(t, f, g)
			}
		}
	}
	for count := range 41 {
		for rows := range 41 {
			f, g := equalColumns(count, texts("u")), equalColumns(count, texts(slices.Repeat([]string{"u"}, rows)...))
			if faultOf(g) != "" {
				continue
			}
			both, problem := impl.BindRows(g, f)
			if count > 0 && (rows == 40 || count*(rows+2) > 200) {
				checkProblem(t, fmt.Sprintf("%d columns of %d rows and one more", count, rows), both, problem, tooLarge)
			} else {
				checkResult(t, fmt.Sprintf("%d columns of %d rows and one more", count, rows), both, problem, equalColumns(count, texts(slices.Repeat([]string{"u"}, rows+1)...)))
			}
			checkBound(t, f, g)
		}
	}
}

func TestOrderRowsInWords(t *testing.T) {
	f := framed("x k b g n", vectorOf(impl.KindNumber, whole(2), missingItem(), whole(10), whole(2), whole(-1)), holed("u", "v", "-", "v", "u"), logicals(1, 0, 2, 0, 1), factor(3, 0, 1, 2, 1), numbersUpTo(5))
	for _, c := range []struct {
		names    string
		up, down []int
	}{
		// The rows by their numbers, which the last column has.
		{"", []int{1, 2, 3, 4, 5}, []int{1, 2, 3, 4, 5}},
		{"n", []int{1, 2, 3, 4, 5}, []int{5, 4, 3, 2, 1}},
		// Missing elements stand last in both directions, and equal rows stay in order.
		{"x", []int{5, 1, 4, 3, 2}, []int{3, 1, 4, 5, 2}},
		{"k", []int{1, 5, 2, 4, 3}, []int{2, 4, 1, 5, 3}},
		{"b", []int{2, 4, 1, 5, 3}, []int{1, 5, 2, 4, 3}},
		// Factors are ordered by their codes: low, mid and high.
		{"g", []int{3, 5, 4, 1, 2}, []int{1, 4, 3, 5, 2}},
		// Equal rows are ordered by the next column.
		{"k x", []int{5, 1, 4, 2, 3}, []int{4, 2, 1, 5, 3}},
		{"x k", []int{5, 1, 4, 3, 2}, []int{3, 4, 1, 5, 2}},
		{"k g", []int{5, 1, 4, 2, 3}, []int{4, 2, 1, 5, 3}},
		{"b g", []int{4, 2, 5, 1, 3}, []int{1, 5, 4, 2, 3}},
		{"b k", []int{2, 4, 1, 5, 3}, []int{1, 5, 2, 4, 3}},
		{"b k n", []int{2, 4, 1, 5, 3}, []int{5, 1, 4, 2, 3}},
		{"k n", []int{1, 5, 2, 4, 3}, []int{4, 2, 5, 1, 3}},
		{"g x", []int{5, 3, 4, 1, 2}, []int{1, 4, 3, 5, 2}},
		// A column again changes nothing.
		{"k k", []int{1, 5, 2, 4, 3}, []int{2, 4, 1, 5, 3}},
		{"k x k x", []int{5, 1, 4, 2, 3}, []int{4, 2, 1, 5, 3}},
		{"n k", []int{1, 2, 3, 4, 5}, []int{5, 4, 3, 2, 1}},
	} {
		names := strings.Fields(c.names)
		g, problem := impl.OrderRows(f, names, false)
		checkResult(t, "by "+c.names, g, problem, pickedRowsByText(f, c.up))
		g, problem = impl.OrderRows(f, names, true)
		checkResult(t, "by "+c.names+" down", g, problem, pickedRowsByText(f, c.down))
		checkColumns(t, f, names...)
	}
	for _, c := range []struct {
		column   impl.Vector
		up, down []int
	}{
		// Numbers by their values, and strings byte by byte.
		{numbers(10, 9, -1, 0), []int{3, 4, 2, 1}, []int{1, 2, 4, 3}},
		{fractions(1, 2, 1, 3, -1, 2, -1, 3), []int{3, 4, 2, 1}, []int{1, 2, 4, 3}},
		{texts("10", "9", "-1", ""), []int{4, 3, 1, 2}, []int{2, 1, 3, 4}},
		{texts("b", "a", "B", "\xff"), []int{3, 2, 1, 4}, []int{4, 1, 2, 3}},
		{coded("z y x", 1, 2, 3, 1), []int{1, 4, 2, 3}, []int{3, 2, 1, 4}},
		{coded("10 9", 2, 1, 0, 1), []int{2, 4, 1, 3}, []int{1, 2, 4, 3}},
		{missing(impl.KindText, 4), []int{1, 2, 3, 4}, []int{1, 2, 3, 4}},
		{logicals(2, 2, 1, 0), []int{4, 3, 1, 2}, []int{3, 4, 1, 2}},
	} {
		f := framed("c n", c.column, numbersUpTo(4))
		g, problem := impl.OrderRows(f, []string{"c"}, false)
		checkResult(t, fieldsOf(c.column), g, problem, pickedRowsByText(f, c.up))
		g, problem = impl.OrderRows(f, []string{"c"}, true)
		checkResult(t, fieldsOf(c.column)+" down", g, problem, pickedRowsByText(f, c.down))
	}
}

// TestOrderOfShortFrames has all pairs of columns of up to 4 rows of a pool, ordered by both in both ways.
func TestOrderOfShortFrames(t *testing.T) {
	eachList([][2]int{{0, 0}, {0, 1}, {1, 0}, {1, 1}, {2, 0}, {2, 1}, {1, 2}, {2, 2}}, 4, func(rows [][2]int) {
		f := framed("b g n", logicals(), factor(), numbersUpTo(len(rows)))
		for _, row := range rows {
			f.Parts[0].Items = append(f.Parts[0].Items, logicals(row[0]).Items...)
			f.Parts[1].Items = append(f.Parts[1].Items, factor(row[1]).Items...)
		}
		for _, names := range [][]string{{"b"}, {"b", "g"}, {"g", "b"}} {
			checkColumns(t, f, names...)
		}
		checkFrame(t, f)
	})
}

func TestCompleteRowsInWords(t *testing.T) {
	for _, c := range []struct {
		f    impl.Vector
		want []int
	}{
		{framed("x", numbers(3, 1, 2)), []int{1, 2, 3}},
		{framed("x", gaps(3, 1)), []int{1, 3}},
		{framed("k", holed("-", "", "NA", "-", "NA_character_")), []int{2, 3, 5}},
		{framed("b", logicals(2, 0, 1, 2)), []int{2, 3}},
		{framed("g", factor(0, 1, 0)), []int{2}},
		{framed("x k", gaps(1, 2), holed("-", "u", "v", "w")), []int{3}},
		{framed("x k b g", numbers(0, 0, 0, 0, 0), holed("-", "", "a", "b", "c"), logicals(0, 2, 0, 0, 0), factor(1, 1, 1, 0, 1)), []int{3, 5}},
		{framed("x k", gaps(1), holed("-", "u")), nil},
		{framed("x", missing(impl.KindNumber, 3)), nil},
		{framed("x", missing(impl.KindNumber, 40)), nil},
		{framed("x", numbersUpTo(40)), numbered(1, 40)},
		{framed("x k", numbers(), texts()), nil},
		{framed(""), nil},
	} {
		checkPositions(t, "complete rows of "+fieldsOf(c.f), impl.CompleteRows(c.f), "", c.want, "")
		checkFrame(t, c.f)
	}
	// All sets of missing elements of three columns and three rows.
	for set := range 1 << 9 {
		f := framed("x k b", numbers(1, 2, 3), texts("u", "v", "w"), logicals(0, 1, 0))
		var want []int
		for row := range 3 {
			for i := range f.Parts {
				if set>>(3*row+i)&1 == 1 {
					f.Parts[i].Items[row] = missingItem()
				}
			}
			if set>>(3*row)&7 == 0 {
				want = append(want, row+1)
			}
		}
		checkPositions(t, "complete rows of "+fieldsOf(f), impl.CompleteRows(f), "", want, "")
	}
}

// TestFramesWithoutColumns has the frame without columns in each function.
func TestFramesWithoutColumns(t *testing.T) {
	none := framed("")
	for _, columns := range [][]impl.Vector{nil, {}, make([]impl.Vector, 0, 3)} {
		f, problem := impl.MakeFrame(columns, nil)
		checkResult(t, "no columns", f, problem, none)
		f, problem = impl.MakeFrame(columns, []string{"x"})
		checkProblem(t, "no columns and a name", f, problem, invalidNames)
		f, problem = impl.MakeFrame(columns, []string{""})
		checkProblem(t, "no columns and an empty name", f, problem, invalidNames)
	}
	if !impl.IsFrame(none) || impl.RowsOf(none) != 0 || len(impl.CompleteRows(none)) != 0 {
		t.Errorf("no columns: %v, %d rows, %v", impl.IsFrame(none), impl.RowsOf(none), impl.CompleteRows(none))
	}
	if impl.IsFrame(listOf()) || impl.RowsOf(listOf()) != -1 {
		t.Error("an empty list is a frame")
	}
	if text := impl.FormatVector(none); text != `structure(list(), class = "data.frame")` {
		t.Error(text)
	}
	for _, name := range []string{"", "x"} {
		v, problem := impl.ColumnOf(none, name)
		checkProblem(t, "column of no columns", v, problem, noColumn)
		v, problem = impl.SelectColumns(none, []string{name})
		checkProblem(t, "columns of no columns", v, problem, noColumn)
		v, problem = impl.SelectColumns(none, []string{name, name})
		checkProblem(t, "equal columns of no columns", v, problem, noColumn)
		v, problem = impl.OrderRows(none, []string{name}, false)
		checkProblem(t, "order of no columns", v, problem, noColumn)
	}
	// Rows that are selected need no cells.
	for _, s := range []impl.Vector{{}, numbers(), numbers(1), numbersUpTo(40), numbers(-1), logicals(1, 0), logicals(slices.Repeat([]int{2}, 40)...), texts("a", "b"), missing(impl.KindText, 40), factor(1)} {
		g, problem := impl.SelectRows(none, s)
		checkResult(t, "rows "+fieldsOf(s)+" of no columns", g, problem, none)
	}
	for _, bad := range badSubscripts() {
		g, problem := impl.SelectRows(none, bad.s)
		checkProblem(t, "rows "+fieldsOf(bad.s)+" of no columns", g, problem, bad.want)
	}
	for _, f := range someFrames() {
		g, problem := impl.SelectColumns(f, nil)
		checkResult(t, "no columns of "+fieldsOf(f), g, problem, none)
		for _, pair := range [][2]impl.Vector{{f, none}, {none, f}} {
			g, problem = impl.BindRows(pair[0], pair[1])
			if len(f.Parts) == 0 {
				checkResult(t, "no columns twice", g, problem, none)
			} else {
				checkProblem(t, "no columns and "+fieldsOf(f), g, problem, columnsDiffer)
			}
		}
	}
	for _, decreasing := range []bool{false, true} {
		g, problem := impl.OrderRows(none, nil, decreasing)
		checkResult(t, "order of no columns", g, problem, none)
	}
	// A column that is added may have any length.
	for length := range 41 {
		for kind := range 4 {
			g, problem := impl.AddColumn(none, "x", repeated(kind, length))
			checkResult(t, "added to no columns", g, problem, framed("x", repeated(kind, length)))
		}
	}
	g, problem := impl.AddColumn(none, "", numbers(1))
	checkProblem(t, "a column without a name", g, problem, invalidNames)
}

func TestFramesWithoutRows(t *testing.T) {
	none := framed("x k b g", numbers(), texts(), logicals(), factor())
	f, problem := impl.MakeFrame(columnsOf(named(numbers()), classed(texts(), "c"), logicals(), factor()), none.Names)
	checkResult(t, "no rows", f, problem, none)
	if !impl.IsFrame(none) || impl.RowsOf(none) != 0 || len(impl.CompleteRows(none)) != 0 {
		t.Errorf("no rows: %v, %d rows, %v", impl.IsFrame(none), impl.RowsOf(none), impl.CompleteRows(none))
	}
	for i, name := range none.Names {
		v, problem := impl.ColumnOf(none, name)
		checkResult(t, "column "+name, v, problem, none.Parts[i])
		f, problem = impl.AddColumn(none, name, v)
		checkResult(t, "column "+name+" put back", f, problem, none)
		f, problem = impl.AddColumn(none, name, numbers(1))
		checkProblem(t, "one element", f, problem, unmatchedLengths)
		f, problem = impl.OrderRows(none, []string{name}, true)
		checkResult(t, "order of no rows", f, problem, none)
	}
	f, problem = impl.AddColumn(none, "y", texts())
	checkResult(t, "no elements added", f, problem, framed("x k b g y", numbers(), texts(), logicals(), factor(), texts()))
	for _, s := range []impl.Vector{{}, numbers(), numbers(0), numbers(-1, -40), logicals(), logicals(0), texts()} {
		f, problem = impl.SelectRows(none, s)
		checkResult(t, "rows "+fieldsOf(s)+" of no rows", f, problem, none)
	}
	for _, s := range []impl.Vector{numbers(1), numbers(40), logicals(1), logicals(2), texts("a"), missing(impl.KindText, 1), factor(1)} {
		f, problem = impl.SelectRows(none, s)
		checkResult(t, "rows "+fieldsOf(s)+" of no rows", f, problem, framed("x k b g", missing(impl.KindNumber, 1), missing(impl.KindText, 1), logicals(2), factor(0)))
	}
	other := framed("g b k x", texts(), numbers(), logicals(), factor())
	f, problem = impl.BindRows(none, other)
	checkResult(t, "no rows twice", f, problem, framed("x k b g", texts(), texts(), numbers(), texts()))
	f, problem = impl.BindRows(other, none)
	checkResult(t, "no rows twice", f, problem, framed("g b k x", texts(), numbers(), texts(), texts()))
}

// problemsOfMaking returns all problems that MakeFrame finds in the columns and names, in order, each as if there were no other one.
func problemsOfMaking(columns []impl.Vector, names []string) []string {
	var problems []string
	isBad := func(v impl.Vector) bool { return faultOf(v) != "" }
	isRefused := func(v impl.Vector) bool { return !isBad(v) && (v.Kind == impl.KindNull || v.Kind > impl.KindText) }
	rows, fits := 0, true
	for _, column := range columns {
		rows = max(rows, len(column.Items))
	}
	for _, column := range columns {
		fits = fits && (rows == 0 || len(column.Items) > 0 && rows%len(column.Items) == 0)
	}
	bad, refused := slices.IndexFunc(columns, isBad), slices.IndexFunc(columns, isRefused)
	for _, c := range []struct {
		problem string
		holds   bool
	}{
		{"too many columns", len(columns) > 40},
		{invalidVector, bad >= 0 && (refused < 0 || bad < refused)},
		{notAtomic, refused >= 0},
		{invalidVector, bad >= 0 && refused >= 0 && refused < bad},
		{unmatchedLengths, !fits},
		{invalidNames, len(names) != len(columns) || faultOf(levelled(numbers(), names[:min(20, len(names))]...)) != "" || repeats(names)},
		{tooLarge, len(columns)*(rows+1) > 200},
	} {
		if c.holds {
			problems = append(problems, c.problem)
		}
	}
	return problems
}

// TestProblemsOfMakeFrame has each problem alone and together with each other one that it can stand beside: the first one counts.
func TestProblemsOfMakeFrame(t *testing.T) {
	bad, long := texts(bytesOf(61)), numbersUpTo(40)
	parts := [][]impl.Vector{
		{}, {numbers(1, 2)}, {numbers(1, 2), texts("u")}, {bad}, {numbersUpTo(41)}, {{}}, {listOf(bad)}, {function(1, 2), texts()}, {numbers(1, 2), numbersUpTo(3)}, {numbers(1, 2), numbers()}, {texts(), factor(1)},
		slices.Repeat(columnsOf(long), 5), slices.Repeat(columnsOf(numbers(1)), 36), slices.Repeat(columnsOf(numbersUpTo(5)), 36), slices.Repeat(columnsOf(numbers()), 41),
	}
	alone, pairs := map[string]int{}, map[string]int{}
	for _, first := range parts {
		for _, second := range parts {
			for _, third := range parts {
				columns := slices.Concat(first, second, third)
				wrong := namesOf(len(columns))
				if len(wrong) > 1 {
					wrong[0] = wrong[len(wrong)-1]
				}
				for _, names := range [][]string{namesOf(len(columns)), wrong, namesOf(len(columns) + 1), nil} {
					problems := problemsOfMaking(columns, names)
					f, problem := impl.MakeFrame(columns, names)
					if len(problems) == 0 {
						want, _ := makeFrameByText(columns, names)
						checkResult(t, "a frame", f, problem, want)
						continue
					}
					countProblems(alone, pairs, problems)
					want := problems[0]
					if want == "too many columns" {
						want = tooLarge
					}
					checkProblem(t, fmt.Sprintf("%d columns with %q", len(columns), problems), f, problem, want)
				}
			}
		}
	}
	// Six problems, of which all are there alone; each pair, and that of the two problems of a column in both orders.
	if len(alone) != 6 || len(pairs) != 16 {
		t.Errorf("problems alone: %v, together: %v", alone, pairs)
	}
}

// TestProblemsOfAddColumn has the problems of MakeFrame, and behind them the number of rows that changes.
func TestProblemsOfAddColumn(t *testing.T) {
	f, bad := framed("x k", numbers(3, 1), texts("u", "v")), texts(bytesOf(61))
	four, full := equalColumns(4, numbersUpTo(20)), equalColumns(4, numbersUpTo(40))
	for _, c := range []struct {
		f    impl.Vector
		name string
		v    impl.Vector
		want string
	}{
		{f, "y", bad, invalidVector}, {f, "x", bad, invalidVector}, {f, "", bad, invalidVector}, {f, bytesOf(61), bad, invalidVector},
		{f, "y", numbersUpTo(41), invalidVector}, {f, "", numbersUpTo(41), invalidVector}, {full, "y", bad, invalidVector}, {full, "y", numbersUpTo(41), invalidVector},
		{f, "y", impl.Vector{}, notAtomic}, {f, "x", listOf(), notAtomic}, {f, "", function(1, 2), notAtomic}, {full, "y", listOf(), notAtomic}, {full, "", listOf(numbers(1), numbers(2), numbers(3)), notAtomic},
		{f, "y", numbersUpTo(3), unmatchedLengths}, {f, "x", numbers(), unmatchedLengths}, {f, "", numbersUpTo(3), unmatchedLengths}, {f, bytesOf(61), numbers(), unmatchedLengths}, {full, "y", numbersUpTo(3), unmatchedLengths}, {full, "", numbersUpTo(39), unmatchedLengths},
		{f, "", numbers(1, 2), invalidNames}, {f, bytesOf(61), numbers(1), invalidNames}, {framed("x", numbers()), "", texts(), invalidNames},
		// Also too large.
		{full, "", numbersUpTo(40), invalidNames}, {full, bytesOf(61), numbers(1), invalidNames},
		// Also another number of rows.
		{f, "", numbersUpTo(4), invalidNames}, {f, bytesOf(61), numbersUpTo(40), invalidNames},
		{full, "y", numbersUpTo(40), tooLarge}, {full, "y", texts("u"), tooLarge}, {equalColumns(40, numbers(1)), "y", numbers(1), tooLarge}, {equalColumns(39, numbersUpTo(4)), "y", numbers(1), ""}, {equalColumns(40, numbersUpTo(4)), "y", numbers(1), tooLarge},
		// Also another number of rows.
		{four, "y", numbersUpTo(40), tooLarge}, {equalColumns(5, numbersUpTo(20)), "000", numbersUpTo(40), tooLarge}, {equalColumns(40, numbersUpTo(2)), "y", numbersUpTo(4), tooLarge}, {equalColumns(40, numbersUpTo(2)), "000", numbersUpTo(6), tooLarge},
		// Also another number of rows, and a name that is not valid.
		{four, "", numbersUpTo(40), invalidNames},
		{f, "x", numbersUpTo(4), unmatchedLengths}, {f, "y", numbersUpTo(40), unmatchedLengths}, {framed("x", numbers(1)), "x", numbers(1, 2), unmatchedLengths}, {framed("x", numbers()), "x", numbers(1), unmatchedLengths}, {four, "003", numbersUpTo(40), unmatchedLengths},
		{framed(""), "", bad, invalidVector}, {framed(""), "", impl.Vector{}, notAtomic}, {framed(""), "", numbers(1), invalidNames}, {framed(""), "x", numbers(1), ""},
	} {
		g, problem := impl.AddColumn(c.f, c.name, c.v)
		name := fmt.Sprintf("%s with %.100q: %s", fieldsOf(c.f), c.name, fieldsOf(c.v))
		if problem != c.want {
			t.Errorf("%s: %q, not %q", name, problem, c.want)
		}
		if c.want != "" {
			checkProblem(t, name, g, problem, c.want)
		}
		checkAdded(t, c.f, c.name, c.v)
		g, problem = impl.AddColumn(classed(c.f, "data.frame", "c"), c.name, c.v)
		checkProblem(t, "no frame, "+name, g, problem, notFrame)
	}
}

// TestProblemsOfBindRows has the problems of the columns, of which the first column that has one counts.
func TestProblemsOfBindRows(t *testing.T) {
	many, other := levelled(factor(1, 2), distinct(20, 3)...), coded("z", 1, 1)
	long := numbersUpTo(39)
	for _, c := range []struct {
		f, g impl.Vector
		want string
	}{
		{framed("g", many), framed("g", other), invalidLevels},
		{framed("g", other), framed("g", many), invalidLevels},
		{framed("x g", texts("a", "b"), many), framed("g x", other, numbers(1, 2)), invalidLevels},
		// Another column is not there, in front of the factors or behind them.
		{framed("g x", many, numbers(1, 2)), framed("g y", other, numbers(1, 2)), invalidLevels},
		{framed("x g", numbers(1, 2), many), framed("y g", numbers(1, 2), other), columnsDiffer},
		// There is another number of columns.
		{framed("g", many), framed("g x", other, numbers(1, 2)), columnsDiffer},
		{framed("g x", many, numbers(1, 2)), framed("g", other), columnsDiffer},
		{framed("g x", many, numbers(1, 2)), framed(""), columnsDiffer},
		{framed(""), framed("g", other), columnsDiffer},

		{framed("x", long), framed("x", numbers(1, 2)), tooLarge},
		{framed("x k", long, repeated(2, 39)), framed("x k", numbers(1, 2), texts("u", "v")), tooLarge},
		{framed("g", repeated(3, 39)), framed("g", factor(1, 2)), tooLarge},
		{framed("g", repeated(3, 39)), framed("g", texts("u", "v")), tooLarge},
		{framed("x k", long, repeated(2, 39)), framed("x z", numbers(1, 2), texts("u", "v")), tooLarge},
		{framed("x k", long, repeated(2, 39)), framed("z k", numbers(1, 2), texts("u", "v")), columnsDiffer},
		{framed("x k", long, repeated(2, 39)), framed("x", numbers(1, 2)), columnsDiffer},
		{framed("x", long), framed("x y", numbers(1, 2), numbers(1, 2)), columnsDiffer},
		// Too many elements and too many levels.
		{framed("g", many), framed("g", levelled(repeated(3, 39), "x", "y", "z")), tooLarge},
		{framed("x g", numbers(1, 2), many), framed("g x", levelled(repeated(3, 39), "x", "y", "z"), long), tooLarge},

		// Too many cells, alone and together with the problems of columns.
		{equalColumns(5, numbersUpTo(20)), equalColumns(5, numbersUpTo(20)), tooLarge},
		{equalColumns(40, numbersUpTo(3)), equalColumns(40, numbers(1, 2)), tooLarge},
		{equalColumns(5, numbersUpTo(20)), named(equalColumns(5, numbersUpTo(20)), "000", "001", "002", "003", "z"), columnsDiffer},
		{framed("a b c d e g", repeated(2, 19), repeated(2, 19), repeated(2, 19), repeated(2, 19), repeated(2, 19), levelled(repeated(3, 19), distinct(20, 3)...)),
			framed("g e d c b a", levelled(repeated(3, 19), "x", "y", "z"), repeated(2, 19), repeated(2, 19), repeated(2, 19), repeated(2, 19), repeated(2, 19)), invalidLevels},
	} {
		both, problem := impl.BindRows(c.f, c.g)
		checkProblem(t, fieldsOf(c.f)+" and "+fieldsOf(c.g), both, problem, c.want)
		checkBound(t, c.f, c.g)
		checkBound(t, c.g, c.f)
		both, problem = impl.BindRows(classed(c.f, "data.frame", "c"), c.g)
		checkProblem(t, "the first one is no frame: "+fieldsOf(c.f), both, problem, notFrame)
		both, problem = impl.BindRows(c.f, classed(c.g))
		checkProblem(t, "the second one is no frame: "+fieldsOf(c.g), both, problem, notFrame)
	}
}

// TestFramesOfInvalidVectors has invalid vectors beside a data frame, and as columns; TestIsFrame has them in place of one.
func TestFramesOfInvalidVectors(t *testing.T) {
	for _, bad := range invalidVectors() {
		b := bad.vector
		check := func(v impl.Vector, problem string) func(want string) {
			return func(want string) {
				t.Helper()
				checkProblem(t, bad.name, v, problem, want)
			}
		}
		check(impl.MakeFrame(columnsOf(b), []string{"x"}))(invalidVector)
		check(impl.MakeFrame(columnsOf(b), nil))(invalidVector)
		check(impl.MakeFrame(columnsOf(numbers(1, 2), b), []string{"x", "y"}))(invalidVector)
		check(impl.MakeFrame(columnsOf(b, numbers(1, 2), texts()), []string{"x", "x"}))(invalidVector)
		check(impl.MakeFrame(columnsOf(b, impl.Vector{}), []string{"x", "y"}))(invalidVector)
		check(impl.MakeFrame(columnsOf(impl.Vector{}, b), []string{"x", "y"}))(notAtomic)
		check(impl.MakeFrame(slices.Repeat(columnsOf(b), 40), nil))(invalidVector)
		check(impl.MakeFrame(slices.Repeat(columnsOf(b), 41), nil))(tooLarge)
		for _, f := range someFrames() {
			want := invalidVector
			if len(f.Parts) == 40 {
				want = tooLarge
			}
			check(impl.SelectRows(f, b))(invalidVector)
			check(impl.AddColumn(f, "z", b))(want)
			check(impl.AddColumn(f, "", b))(want)
			if len(f.Parts) > 0 {
				check(impl.AddColumn(f, f.Names[len(f.Names)-1], b))(invalidVector)
			}
			check(impl.BindRows(f, b))(notFrame)
		}
	}
}

// randomColumn returns a column whose elements are some of a few, so that many rows are equal.
func randomColumn(source *rand.Rand, rows int) impl.Vector {
	kind := source.IntN(4)
	if kind == impl.KindNull {
		return withoutNames(randomFactor(source, rows))
	}
	v := crowded(source, kind, rows)
	if source.IntN(3) == 0 {
		v = randomOperand(source, kind, rows)
	}
	if len(v.Levels) > 0 {
		return classed(withoutNames(v), "factor")
	}
	return withoutNames(withoutClass(v))
}

// randomFrame returns a data frame with this number of rows, unless it has no columns.
func randomFrame(source *rand.Rand, rows int) impl.Vector {
	words := strings.Fields("x k b g if z <NA> a.b X")
	source.Shuffle(len(words), func(i int, k int) { words[i], words[k] = words[k], words[i] })
	f := framed("")
	for i := range source.IntN(min(len(words), 200/(rows+1)) + 1) {
		f.Parts, f.Names = append(f.Parts, randomColumn(source, rows)), append(f.Names, words[i])
	}
	return f
}

// columnLike returns a column of the kind of v, which is a factor if v is one.
func columnLike(source *rand.Rand, v impl.Vector, rows int) impl.Vector {
	if len(v.Levels) > 0 {
		return withoutNames(randomFactor(source, rows))
	}
	return withoutNames(withoutClass(levelled(crowded(source, v.Kind, rows))))
}

// randomPartner returns a data frame with the columns of f in any order: those of the same kinds, or any ones.
func randomPartner(source *rand.Rand, f impl.Vector, rows int, sameKinds bool) impl.Vector {
	g := framed("")
	for _, i := range source.Perm(len(f.Parts)) {
		column := columnLike(source, f.Parts[i], rows)
		if !sameKinds && source.IntN(2) == 0 {
			column = randomColumn(source, rows)
		}
		g.Parts, g.Names = append(g.Parts, column), append(g.Names, f.Names[i])
	}
	return g
}

func TestFramesOfSamples(t *testing.T) {
	list := ordinaryVectors()
	for i, v := range slices.Concat(someFrames(), almostFrames()) {
		list = append(list, sample{fmt.Sprintf("vector %d", i), v})
	}
	for _, s := range list {
		v := s.vector
		checkFrame(t, v)
		checkMade(t, columnsOf(v), []string{"x"})
		checkMade(t, v.Parts, v.Names)
		checkMade(t, append(columnsOf(numbers(1), v), v.Parts...), namesOf(len(v.Parts)+2))
		for _, other := range list {
			checkRows(t, v, other.vector)
			checkAdded(t, v, "x", other.vector)
			checkAdded(t, v, "z", other.vector)
			checkBound(t, v, other.vector)
		}
	}
}

func TestFramesOfRandomVectors(t *testing.T) {
	source := rand.New(rand.NewPCG(12, 1))
	bound := 0
	for range 1000 {
		rows := source.IntN(41)
		f := randomFrame(source, rows)
		if !impl.IsFrame(f) {
			t.Errorf("%s is no data frame", fieldsOf(f))
		}
		g := randomPartner(source, f, source.IntN(41-rows), false)
		checkFrame(t, f)
		checkRows(t, f, randomSubscript(source, rows, nil))
		names := slices.Concat(f.Names, []string{"q"})
		source.Shuffle(len(names), func(i int, k int) { names[i], names[k] = names[k], names[i] })
		checkColumns(t, f, names[:source.IntN(len(names)+1)]...)
		checkColumns(t, f, f.Names[:source.IntN(len(f.Names)+1)]...)
		checkAdded(t, f, names[0], randomColumn(source, rows))
		checkAdded(t, f, names[0], randomOperand(source, source.IntN(3)+1, source.IntN(5)))
		checkBound(t, f, g)
		checkBound(t, f, randomFrame(source, 3))
		if _, problem := impl.BindRows(f, g); problem == "" && len(f.Parts) > 1 {
			bound++
		}
		var columns []impl.Vector
		for range source.IntN(4) {
			a, b := randomOperands(source)
			columns = append(columns, a, b)
		}
		checkMade(t, columns, namesOf(len(columns)))
		checkMade(t, append(columns, randomVector(source, source.IntN(6), 4, 2)), namesOf(len(columns)+1))
	}
	if bound < 300 {
		t.Errorf("only %d frames were bound", bound)
	}
}

// TestFramesThatAreCutAreBoundTogetherAgain cuts frames behind each row, and between rows that are selected in any way.
func TestFramesThatAreCutAreBoundTogetherAgain(t *testing.T) {
	source := rand.New(rand.NewPCG(12, 2))
	for range 250 {
		rows := source.IntN(41)
		f := randomFrame(source, rows)
		if len(f.Parts) == 0 {
			rows = 0
		}
		resultOf := arranged(t, f)
		for cut := range rows + 1 {
			upper := resultOf(impl.SelectRows(f, numbers(numbered(1, cut)...)))
			lower := resultOf(impl.SelectRows(f, numbers(numbered(cut+1, rows)...)))
			if impl.RowsOf(upper) != cut || impl.RowsOf(lower) != rows-cut {
				t.Errorf("%s: %d and %d rows behind row %d", fieldsOf(f), impl.RowsOf(upper), impl.RowsOf(lower), cut)
			}
			checkVector(t, "bound together again", resultOf(impl.BindRows(upper, lower)), f)
			backwards := slices.Clone(f.Names)
			slices.Reverse(backwards)
			checkVector(t, "bound together with columns in another order", resultOf(impl.BindRows(upper, resultOf(impl.SelectColumns(lower, backwards)))), f)
			turned := resultOf(impl.SelectRows(f, numbers(append(numbered(cut+1, rows), numbered(1, cut)...)...)))
			checkVector(t, "bound the other way round", resultOf(impl.BindRows(lower, upper)), turned)
		}
		if rows == 0 {
			continue
		}
		// Kept rows and those left out by the same subscript are all rows, in another order.
		chosen := logicals()
		for range rows {
			chosen.Items = append(chosen.Items, truth(source.IntN(2) == 0))
		}
		kept := resultOf(impl.SelectRows(f, chosen))
		rest := resultOf(impl.SelectRows(f, resultOf(impl.NotVector(chosen))))
		positions := append(numbersOf(resultOf(impl.WhichOf(chosen))), numbersOf(resultOf(impl.WhichOf(resultOf(impl.NotVector(chosen)))))...)
		checkVector(t, "kept rows and the rest", resultOf(impl.BindRows(kept, rest)), pickedRowsByText(f, positions))
	}
}

// numbersOf returns the elements of v, which are known integers.
func numbersOf(v impl.Vector) []int {
	var list []int
	for _, x := range v.Items {
		list = append(list, x.Num)
	}
	return list
}

// TestColumnsPutBack also makes frames again of their columns, and selects their columns and rows one by one.
func TestColumnsPutBack(t *testing.T) {
	source := rand.New(rand.NewPCG(12, 3))
	for range 600 {
		rows := source.IntN(41)
		f := randomFrame(source, rows)
		resultOf := arranged(t, f)
		var columns []impl.Vector
		again := framed("")
		for i, name := range f.Names {
			column := resultOf(impl.ColumnOf(f, name))
			checkVector(t, "column", column, f.Parts[i])
			columns = append(columns, column)
			checkVector(t, "column put back", resultOf(impl.AddColumn(f, name, column)), f)
			again = resultOf(impl.AddColumn(again, name, column))
			others := slices.Delete(slices.Clone(f.Names), i, i+1)
			moved := resultOf(impl.AddColumn(resultOf(impl.SelectColumns(f, others)), name, column))
			checkVector(t, "column put behind the others", moved, resultOf(impl.SelectColumns(f, append(others, name))))
			checkVector(t, "columns as they were", resultOf(impl.SelectColumns(moved, f.Names)), f)
			changed := resultOf(impl.AddColumn(f, name, numbersUpTo(rows)))
			checkVector(t, "column that was put there", resultOf(impl.ColumnOf(changed, name)), numbersUpTo(rows))
			checkVector(t, "column put back after a change", resultOf(impl.AddColumn(changed, name, column)), f)
		}
		checkVector(t, "columns added one by one", again, f)
		checkVector(t, "made of its columns", resultOf(impl.MakeFrame(columns, f.Names)), f)
		checkVector(t, "all columns", resultOf(impl.SelectColumns(f, f.Names)), f)
		// A logical subscript is cut to nothing only if it has no elements: one true value would select a row of none.
		checkVector(t, "all rows", resultOf(impl.SelectRows(f, logicals(slices.Repeat([]int{1}, impl.RowsOf(f))...))), f)
		if rows < 40 {
			checkVector(t, "no row left out", resultOf(impl.SelectRows(f, numbers(-40, 0))), f)
		}
	}
}

// TestOrderedRowsAreInOrder compares the rows with each other and with the order of the first column.
func TestOrderedRowsAreInOrder(t *testing.T) {
	source := rand.New(rand.NewPCG(12, 4))
	equal := 0
	for range 600 {
		rows := source.IntN(40)
		f := randomFrame(source, rows)
		resultOf := arranged(t, f)
		// The numbers of the rows tell which is which.
		f, problem := impl.AddColumn(f, "row", numbersUpTo(rows))
		if problem != "" {
			continue
		}
		for _, decreasing := range []bool{false, true} {
			names := f.Names[:source.IntN(len(f.Names))]
			g := resultOf(impl.OrderRows(f, names, decreasing))
			order := resultOf(impl.ColumnOf(g, "row"))
			if !isPermutation(numbersOf(order), rows) {
				t.Errorf("rows of %s by %q: %v", fieldsOf(f), names, numbersOf(order))
			}
			checkVector(t, "rows in their order", resultOf(impl.SelectRows(f, order)), g)
			equal += checkAscending(t, g, names, decreasing)
			checkVector(t, "ordered again", resultOf(impl.OrderRows(g, names, decreasing)), g)
			if len(names) == 0 {
				checkVector(t, "ordered by no columns", g, f)
				continue
			}
			// By the last column first, and then by the ones in front of it: equal rows stay in order.
			h := f
			for _, name := range slices.Backward(names) {
				h = resultOf(impl.OrderRows(h, []string{name}, decreasing))
				positions, _ := impl.OrderOf(resultOf(impl.ColumnOf(f, name)), decreasing)
				alone := resultOf(impl.OrderRows(f, []string{name}, decreasing))
				checkVector(t, "in the order of the column", alone, resultOf(impl.SelectRows(f, numbers(positions...))))
			}
			checkVector(t, "ordered by one column behind the other", h, g)
			first := resultOf(impl.ColumnOf(g, names[0]))
			if positions, _ := impl.OrderOf(first, decreasing); !slices.Equal(positions, numbered(1, rows)) {
				t.Errorf("first column of %s by %q: %v", fieldsOf(g), names, positions)
			}
		}
	}
	if equal < 500 {
		t.Errorf("only %d equal rows", equal)
	}
}

// checkAscending checks that no row of f comes before the one in front of it, and that equal ones are in the order of the column row; it returns the number of these.
func checkAscending(t *testing.T, f impl.Vector, names []string, decreasing bool) int {
	t.Helper()
	equal := 0
	places, _ := columnByText(f, "row")
	for row := 1; row < rowsByText(f); row++ {
		isEqual := true
		for _, name := range names {
			column, _ := columnByText(f, name)
			x, y := column.Items[row-1], column.Items[row]
			if x != y {
				isEqual = false
				if !follows(x, y, decreasing, column.Kind) {
					t.Errorf("row %d of %s by %q, decreasing %v", row, fieldsOf(f), names, decreasing)
				}
				break
			}
		}
		if isEqual {
			equal++
			if places.Items[row-1].Num > places.Items[row].Num {
				t.Errorf("equal rows of %s by %q", fieldsOf(f), names)
			}
		}
	}
	return equal
}

// TestCompleteRowsFitTogether compares complete rows with the elements that are missing, and selects them.
func TestCompleteRowsFitTogether(t *testing.T) {
	source := rand.New(rand.NewPCG(12, 5))
	for range 1000 {
		rows := source.IntN(41)
		f := randomFrame(source, rows)
		if len(f.Parts) == 0 {
			continue
		}
		resultOf := arranged(t, f)
		isMissing := logicals(make([]int, rows)...)
		for _, name := range f.Names {
			isMissing = resultOf(impl.LogicOf("|", isMissing, resultOf(impl.MissingIn(resultOf(impl.ColumnOf(f, name))))))
		}
		complete := impl.CompleteRows(f)
		checkVector(t, "complete rows", numbers(complete...), resultOf(impl.WhichOf(resultOf(impl.NotVector(isMissing)))))
		g := resultOf(impl.SelectRows(f, numbers(complete...)))
		checkPositions(t, "complete rows of those", impl.CompleteRows(g), "", numbered(1, len(complete)), "")
		if rows < 40 {
			longer, problem := impl.SelectRows(f, numbers(numbered(1, rows+1)...))
			if problem == "" {
				checkPositions(t, "complete rows and a missing one", impl.CompleteRows(longer), "", complete, "")
			}
		}
	}
}

// TestBoundFramesFitTogether compares the columns and the complete rows of bound frames with those of both.
func TestBoundFramesFitTogether(t *testing.T) {
	source := rand.New(rand.NewPCG(12, 6))
	for range 800 {
		f := randomFrame(source, source.IntN(20))
		g := randomPartner(source, f, source.IntN(10), false)
		resultOf := arranged(t, f)
		both, problem := impl.BindRows(f, g)
		if problem != "" || len(f.Parts) == 0 {
			continue
		}
		rows := impl.RowsOf(f)
		if impl.RowsOf(both) != rows+impl.RowsOf(g) {
			t.Errorf("%d and %d rows: %d", rows, impl.RowsOf(g), impl.RowsOf(both))
		}
		var complete []int
		for _, row := range impl.CompleteRows(g) {
			complete = append(complete, rows+row)
		}
		checkPositions(t, "complete rows of bound frames", impl.CompleteRows(both), "", append(impl.CompleteRows(f), complete...), "")
		for _, name := range f.Names {
			upper, lower := resultOf(impl.ColumnOf(f, name)), resultOf(impl.ColumnOf(g, name))
			joined := resultOf(impl.CombineVectors([]impl.Vector{plainOf(t, upper), plainOf(t, lower)}, nil))
			checkVector(t, "bound column", plainOf(t, resultOf(impl.ColumnOf(both, name))), joined)
			alone := resultOf(impl.BindRows(resultOf(impl.SelectColumns(f, []string{name})), resultOf(impl.SelectColumns(g, []string{name}))))
			checkVector(t, "one column bound alone", alone, resultOf(impl.SelectColumns(both, []string{name})))
		}
	}
}

// TestBindingIsAssociative has columns of the same kinds: with others it matters which ones are joined first.
func TestBindingIsAssociative(t *testing.T) {
	source := rand.New(rand.NewPCG(12, 7))
	bound := 0
	for range 800 {
		f := randomFrame(source, source.IntN(15))
		g, h := randomPartner(source, f, source.IntN(10), true), randomPartner(source, f, source.IntN(10), true)
		upper, problem := impl.BindRows(f, g)
		lower, lowerProblem := impl.BindRows(g, h)
		if problem != "" || lowerProblem != "" {
			continue
		}
		both, problem := impl.BindRows(upper, h)
		want, wantedProblem := impl.BindRows(f, lower)
		checkOutcome(t, "three frames", both, problem, want, wantedProblem)
		if problem == "" && len(f.Parts) > 1 {
			bound++
		}
	}
	if bound < 200 {
		t.Errorf("only %d frames were bound", bound)
	}
}

// TestFramesShareNoMemory also checks that the functions change nothing, not even behind the end of a slice.
func TestFramesShareNoMemory(t *testing.T) {
	list := []sample{
		{"no columns", framed("")}, {"no rows", framed("x k", numbers(), texts())}, {"two columns", framed("x k", numbers(3, 1), texts("u", "v"))}, {"in another order", framed("k x", texts("w"), numbers(2))},
		{"factors", framed("g h", factor(3, 0, 1), coded("b a", 2, 1, 2))}, {"other factors", framed("h g", coded("a c", 2), coded("z", 1))}, {"a factor and strings", framed("g h", texts("u", "v"), factor(1, 2))},
		{"missing elements", framed("x k b", gaps(1), holed("-", "u"), logicals(2, 0))}, {"many rows", framed("x k", numbersUpTo(39), repeated(2, 39))}, {"almost a frame", framed("x k", numbers(3, 1), texts("u"))},
	}
	for _, s := range append(list, ordinaryVectors()...) {
		f := roomy(s.vector)
		before := contentOf(f)
		columns, columnNames := roomyList(append(columnsOf(named(numbers(1, 2), "a", "b"), s.vector), s.vector.Parts...)), roomySlice(namesOf(len(s.vector.Parts)+2), "mark")
		beforeColumns := contentsOf(columns) + fmt.Sprint(columnNames[:cap(columnNames)])
		g, _ := impl.MakeFrame(columns, columnNames)
		checkApart(t, "made of "+s.name, regionsOf(g), regionsOfList(columns), regionOf(columnNames))
		g, _ = impl.MakeFrame(f.Parts, f.Names)
		checkApart(t, "made of the parts of "+s.name, regionsOf(g), regionsOf(f))
		for _, names := range [][]string{nil, {"x"}, {"k", "x"}, {"g", "h"}, {"h"}, {"x", "x"}, {"z"}, s.vector.Names} {
			wanted := roomySlice(names, "mark")
			beforeNames := fmt.Sprint(wanted[:cap(wanted)])
			g, _ = impl.SelectColumns(f, wanted)
			checkApart(t, "columns of "+s.name, regionsOf(g), regionsOf(f), regionOf(wanted))
			g, _ = impl.SelectColumns(f, f.Names)
			checkApart(t, "all columns of "+s.name, regionsOf(g), regionsOf(f))
			g, _ = impl.OrderRows(f, wanted, true)
			checkApart(t, "order of "+s.name, regionsOf(g), regionsOf(f), regionOf(wanted))
			if fmt.Sprint(wanted[:cap(wanted)]) != beforeNames {
				t.Errorf("%s: the names have changed: %q", s.name, wanted[:cap(wanted)])
			}
		}
		for _, name := range []string{"x", "k", "g", "h", "z"} {
			g, _ = impl.ColumnOf(f, name)
			checkApart(t, "column of "+s.name, regionsOf(g), regionsOf(f))
		}
		checkApart(t, "complete rows of "+s.name, regionOf(impl.CompleteRows(f)), regionsOf(f))
		impl.IsFrame(f)
		impl.RowsOf(f)
		for _, other := range append(list, sample{"numbers", named(numbers(1, 2), "x", "k")}, sample{"one true value", logicals(1)}, sample{"a factor", named(factor(2, 1), "x", "")}, sample{"negative numbers", numbers(-1)}) {
			checkPairApart(t, s.name+" and "+other.name, f, roomy(other.vector))
		}
		g, _ = impl.BindRows(f, f)
		checkApart(t, "twice "+s.name, regionsOf(g), regionsOf(f))
		if contentOf(f) != before || contentsOf(columns)+fmt.Sprint(columnNames[:cap(columnNames)]) != beforeColumns {
			t.Errorf("%s: an argument has changed", s.name)
		}
	}
}

// checkPairApart has the functions that take two vectors.
func checkPairApart(t *testing.T, name string, f impl.Vector, v impl.Vector) {
	t.Helper()
	before := contentOf(v)
	for _, column := range []string{"x", "k", "g", "z"} {
		g, _ := impl.AddColumn(f, column, v)
		checkApart(t, "added: "+name, regionsOf(g), regionsOf(f), regionsOf(v))
		if len(f.Parts) > 0 {
			g, _ = impl.AddColumn(f, column, f.Parts[0])
			checkApart(t, "added itself: "+name, regionsOf(g), regionsOf(f))
		}
	}
	g, _ := impl.SelectRows(f, v)
	checkApart(t, "rows: "+name, regionsOf(g), regionsOf(f), regionsOf(v))
	g, _ = impl.BindRows(f, v)
	checkApart(t, "bound: "+name, regionsOf(g), regionsOf(f), regionsOf(v))
	if contentOf(v) != before {
		t.Errorf("%s: the second argument has changed", name)
	}
}

// TestFramesInUse checks that changing a result does not change what a second call returns.
func TestFramesInUse(t *testing.T) {
	f, v := roomy(framed("x g", numbers(3, 1), factor(2, 0))), roomy(numbers(7))
	names := roomySlice([]string{"g", "x"}, "mark")
	before := contentOf(f) + contentOf(v) + fmt.Sprint(names[:cap(names)])
	spoil := func(w impl.Vector) {
		w.Names[0], w.Class[0] = "changed", "changed"
		for _, part := range w.Parts {
			part.Items[0] = whole(9)
			for _, list := range [][]string{part.Class, part.Levels} {
				for i := range list {
					list[i] = "changed"
				}
			}
		}
	}
	for range 2 {
		g, problem := impl.MakeFrame(columnsOf(v, f.Parts[1]), names)
		checkResult(t, "frame", g, problem, framed("g x", numbers(7, 7), factor(2, 0)))
		spoil(g)
		g, problem = impl.SelectRows(f, numbers(2, 2))
		checkResult(t, "rows", g, problem, framed("x g", numbers(1, 1), factor(0, 0)))
		spoil(g)
		g, problem = impl.SelectColumns(f, names)
		checkResult(t, "columns", g, problem, framed("g x", factor(2, 0), numbers(3, 1)))
		spoil(g)
		g, problem = impl.AddColumn(f, "y", v)
		checkResult(t, "added", g, problem, framed("x g y", numbers(3, 1), factor(2, 0), numbers(7, 7)))
		spoil(g)
		g, problem = impl.BindRows(f, f)
		checkResult(t, "bound", g, problem, framed("x g", numbers(3, 1, 3, 1), factor(2, 0, 2, 0)))
		spoil(g)
		g, problem = impl.OrderRows(f, names[1:], false)
		checkResult(t, "ordered", g, problem, framed("x g", numbers(1, 3), factor(0, 2)))
		spoil(g)
		g, problem = impl.ColumnOf(f, "g")
		checkResult(t, "column", g, problem, factor(2, 0))
		g.Items[0], g.Levels[0], g.Class[0] = whole(9), "changed", "changed"
		complete := impl.CompleteRows(f)
		checkPositions(t, "complete rows", complete, "", []int{1}, "")
		complete[0] = 9
	}
	if contentOf(f)+contentOf(v)+fmt.Sprint(names[:cap(names)]) != before {
		t.Error("an argument has changed")
	}
}
