package tests

import (
	"fmt"
	"math/rand/v2"
	"slices"
	"strings"
	"testing"

	"loop.example/g03406/impl"
)

const (
	noLevels  = "no levels"
	notFactor = "not a factor"
)

// coded returns the factor with the levels, which stand between spaces, and the codes, of which 0 is the missing one.
func coded(levels string, codes ...int) impl.Vector {
	return levelled(factor(codes...), strings.Fields(levels)...)
}

// plainByText returns the elements of v as strings.
func plainByText(v impl.Vector) impl.Vector {
	w := texts()
	for _, x := range v.Items {
		if x != missingItem() {
			x = word(plainTextOf(v, x))
		}
		w.Items = append(w.Items, x)
	}
	return w
}

// problemOfFactorByText returns the problems of a vector that is to be made a factor. Its argument must not be circular.
func problemOfFactorByText(v impl.Vector) string {
	switch {
	case faultOf(v) != "":
		return invalidVector
	case !isAtomicByText(v):
		return notAtomic
	}
	return ""
}

func factorWithByText(v impl.Vector, levels []string) (impl.Vector, string) {
	if problem := problemOfFactorByText(v); problem != "" {
		return impl.Vector{}, problem
	}
	if len(levels) == 0 {
		return impl.Vector{}, noLevels
	}
	w := impl.Vector{Kind: impl.KindNumber, Names: v.Names, Class: []string{"factor"}, Levels: levels}
	for _, x := range plainByText(v).Items {
		code := missingItem()
		for i, level := range levels {
			if x == word(level) {
				code = whole(i + 1)
			}
		}
		w.Items = append(w.Items, code)
	}
	if faultOf(w) != "" {
		return impl.Vector{}, invalidLevels
	}
	return w, ""
}

// levelsByText takes the least one of the known elements until none is left.
func levelsByText(v impl.Vector) []string {
	if len(v.Levels) > 0 {
		v = plainByText(v)
	}
	var levels []string
	rest := slices.DeleteFunc(slices.Clone(v.Items), func(x impl.Item) bool { return x == missingItem() })
	for len(rest) > 0 {
		least := slices.MinFunc(rest, func(x impl.Item, y impl.Item) int { return differenceByText(v, x, y) })
		levels = append(levels, plainTextOf(v, least))
		rest = slices.DeleteFunc(rest, func(x impl.Item) bool { return x == least })
	}
	return levels
}

func factorByText(v impl.Vector) (impl.Vector, string) {
	if problem := problemOfFactorByText(v); problem != "" {
		return impl.Vector{}, problem
	}
	return factorWithByText(v, levelsByText(v))
}

func isFactorByText(v impl.Vector) bool {
	return faultOf(v) == "" && v.Kind == impl.KindNumber && len(v.Levels) > 0 && len(v.Class) == 1 && v.Class[0] == "factor"
}

func factorTextByText(v impl.Vector) (impl.Vector, string) {
	if !isFactorByText(v) {
		return impl.Vector{}, notFactor
	}
	return named(plainByText(v), v.Names...), ""
}

// levelCountByText returns the number of elements with the code.
func levelCountByText(v impl.Vector, code int) int {
	count := 0
	for _, x := range v.Items {
		if x == whole(code) {
			count++
		}
	}
	return count
}

func dropByText(v impl.Vector) (impl.Vector, string) {
	if !isFactorByText(v) {
		return impl.Vector{}, notFactor
	}
	w := classed(named(numbers(), v.Names...), "factor")
	codes := map[impl.Item]impl.Item{missingItem(): missingItem()}
	for i, level := range v.Levels {
		if levelCountByText(v, i+1) > 0 {
			w.Levels = append(w.Levels, level)
			codes[whole(i+1)] = whole(len(w.Levels))
		}
	}
	for _, x := range v.Items {
		w.Items = append(w.Items, codes[x])
	}
	if len(w.Levels) == 0 {
		return impl.Vector{}, noLevels
	}
	return w, ""
}

func tableByText(v impl.Vector) (impl.Vector, string) {
	if !isFactorByText(v) {
		made, problem := factorByText(v)
		if problem != "" {
			return impl.Vector{}, problem
		}
		v = made
	}
	w := named(numbers(), v.Levels...)
	for i := range v.Levels {
		w.Items = append(w.Items, whole(levelCountByText(v, i+1)))
	}
	return w, ""
}

func joinByText(f impl.Vector, g impl.Vector) (impl.Vector, string) {
	if !isFactorByText(f) || !isFactorByText(g) {
		return impl.Vector{}, notFactor
	}
	if len(f.Items)+len(g.Items) > 40 {
		return impl.Vector{}, tooLarge
	}
	w := impl.Vector{Kind: impl.KindNumber, Items: slices.Clone(f.Items), Class: []string{"factor"}, Levels: slices.Clone(f.Levels)}
	for _, level := range g.Levels {
		if !slices.Contains(f.Levels, level) {
			w.Levels = append(w.Levels, level)
		}
	}
	if len(w.Levels) > 20 {
		return impl.Vector{}, invalidLevels
	}
	for _, x := range g.Items {
		if x != missingItem() {
			x = whole(slices.Index(w.Levels, g.Levels[x.Num-1]) + 1)
		}
		w.Items = append(w.Items, x)
	}
	return w, ""
}

// checkFactors has the functions that take one vector, which must not be circular.
func checkFactors(t *testing.T, v impl.Vector) {
	t.Helper()
	name := fieldsOf(v)
	got, problem := impl.MakeFactor(v)
	want, wantedProblem := factorByText(v)
	checkOutcome(t, "factor of "+name, got, problem, want, wantedProblem)
	got, problem = impl.FactorText(v)
	want, wantedProblem = factorTextByText(v)
	checkOutcome(t, "text of "+name, got, problem, want, wantedProblem)
	got, problem = impl.DropLevels(v)
	want, wantedProblem = dropByText(v)
	checkOutcome(t, "levels dropped in "+name, got, problem, want, wantedProblem)
	got, problem = impl.TableOf(v)
	want, wantedProblem = tableByText(v)
	checkOutcome(t, "table of "+name, got, problem, want, wantedProblem)
	if impl.IsFactor(v) != isFactorByText(v) {
		t.Errorf("%s: IsFactor is %v", name, impl.IsFactor(v))
	}
}

func checkFactorWith(t *testing.T, v impl.Vector, levels []string) {
	t.Helper()
	got, problem := impl.MakeFactorWith(v, levels)
	want, wantedProblem := factorWithByText(v, levels)
	checkOutcome(t, fmt.Sprintf("factor of %s with %.300q", fieldsOf(v), levels), got, problem, want, wantedProblem)
}

func checkJoined(t *testing.T, f impl.Vector, g impl.Vector) {
	t.Helper()
	got, problem := impl.CombineFactors(f, g)
	want, wantedProblem := joinByText(f, g)
	checkOutcome(t, fieldsOf(f)+" and "+fieldsOf(g), got, problem, want, wantedProblem)
}

func TestMakeFactorInWords(t *testing.T) {
	for _, c := range []struct{ from, want impl.Vector }{
		{texts("b", "a", "b"), coded("a b", 2, 1, 2)},
		{texts("x"), coded("x", 1)},
		{texts("x", "x", "x"), coded("x", 1, 1, 1)},
		{texts("10", "9", "-1"), coded("-1 10 9", 2, 3, 1)},
		{texts("a", "B", "a\x00", "\xff", "\x00", "é"), levelled(factor(3, 2, 4, 6, 1, 5), "\x00", "B", "a", "a\x00", "é", "\xff")},
		{texts("a b", " ", "a"), levelled(factor(3, 1, 2), " ", "a", "a b")},
		{holed("NA", "-", "a"), coded("NA a", 1, 0, 2)},
		{holed("-", "b", "-", "a", "b"), coded("a b", 0, 2, 0, 1, 2)},
		{texts("NA_number_", "NULL", "NA"), coded("NA NA_number_ NULL", 2, 3, 1)},
		{texts(bytesOf(60), bytesOf(59)), levelled(factor(2, 1), bytesOf(59), bytesOf(60))},

		{numbers(10, 9, 10), coded("9 10", 2, 1, 2)},
		{numbers(2, -1, 0, -10, 100, 11), coded("-10 -1 0 2 11 100", 4, 2, 3, 1, 6, 5)},
		{fractions(1, 2, 1, 3, -1, 2, -1, 3), coded("-1/2 -1/3 1/3 1/2", 4, 3, 1, 2)},
		{fractions(3, 1, 5, 2, 10, 3, 0, 0, 5, 2), coded("5/2 3 10/3", 2, 1, 3, 0, 1)},
		{fractions(-7, 3, -2, 1, -5, 2), coded("-5/2 -7/3 -2", 2, 3, 1)},
		{numbers(999999999, -999999999), coded("-999999999 999999999", 2, 1)},
		{fractions(999999999, 999999998, 1, 999999999, -999999998, 999999999), coded("-999999998/999999999 1/999999999 999999999/999999998", 3, 2, 1)},
		{gaps(3, 1), coded("1 3", 2, 0, 1, 0)},
		{numbers(0), coded("0", 1)},

		{logicals(1, 0, 1), coded("FALSE TRUE", 2, 1, 2)},
		{logicals(0, 2), coded("FALSE", 1, 0)},
		{logicals(1, 2, 1), coded("TRUE", 1, 0, 1)},
		{logicals(1, 1), coded("TRUE", 1, 1)},
	} {
		v, problem := impl.MakeFactor(c.from)
		checkResult(t, "factor of "+fieldsOf(c.from), v, problem, c.want)
		checkFactors(t, c.from)
		checkFactors(t, c.want)
	}
}

// TestFactorsOfVectorsWithAttributes has names, which are kept, a Class, which is replaced, and Levels, whose strings are the elements.
func TestFactorsOfVectorsWithAttributes(t *testing.T) {
	for _, c := range []struct{ from, want impl.Vector }{
		{named(texts("b", "a"), "p", "q"), named(coded("a b", 2, 1), "p", "q")},
		{named(texts("b", "a", "b"), "", "q", ""), named(coded("a b", 2, 1, 2), "", "q", "")},
		{named(numbers(7, 7), "p", "p"), named(coded("7", 1, 1), "p", "p")},
		{named(gaps(7), "", "q"), named(coded("7", 1, 0), "", "q")},
		{named(logicals(0), bytesOf(60)), named(coded("FALSE", 1), bytesOf(60))},
		{classed(texts("b", "a"), "c", "d"), coded("a b", 2, 1)},
		{classed(numbers(2, 1), "factor"), coded("1 2", 2, 1)},
		{classed(named(logicals(1), "p"), "factor", "c"), named(coded("TRUE", 1), "p")},

		// A factor is ordered anew, and has only the levels that occur.
		{factor(1, 2, 3), coded("high low mid", 2, 3, 1)},
		{factor(3, 0, 1, 3), coded("high low", 1, 0, 2, 1)},
		{named(factor(2, 0), "p", ""), named(coded("mid", 1, 0), "p", "")},
		{coded("a b", 2, 1), coded("a b", 2, 1)},
		{coded("a b c", 2, 1), coded("a b", 2, 1)},
		{coded("9 10 -1", 1, 2, 3), coded("-1 10 9", 3, 2, 1)},
		{levelled(numbers(2, 1), "y", "x"), coded("x y", 1, 2)},
		{classed(named(levelled(numbers(2, 1), "y", "x"), "p", "q"), "c"), named(coded("x y", 1, 2), "p", "q")},
		{classed(coded("y x", 1, 1), "factor", "c"), coded("y", 1, 1)},
	} {
		v, problem := impl.MakeFactor(c.from)
		checkResult(t, "factor of "+fieldsOf(c.from), v, problem, c.want)
		checkFactors(t, c.from)
		v, problem = impl.MakeFactorWith(c.from, c.want.Levels)
		checkResult(t, "factor with levels of "+fieldsOf(c.from), v, problem, c.want)
	}
}

// TestMakeFactorWithInWords takes the levels from the factors that are wanted.
func TestMakeFactorWithInWords(t *testing.T) {
	for _, c := range []struct{ from, want impl.Vector }{
		{texts("b", "a", "b"), coded("a b", 2, 1, 2)},
		{texts("x"), coded("x", 1)},

		// Levels in an order of their own, and such that do not occur.
		{texts("b", "a", "b"), coded("b a", 1, 2, 1)},
		{texts("mid", "high", "low"), coded("low mid high", 2, 3, 1)},
		{texts("b", "a"), coded("z b y a x", 2, 4)},
		{numbers(10, 9, 10), coded("10 9", 1, 2, 1)},
		{logicals(1, 0), coded("TRUE FALSE", 1, 2)},

		// Elements that are missing or no level.
		{texts("b", "z"), coded("b a", 1, 0)},
		{texts("b", "c"), coded("z y x", 0, 0)},
		{texts("B", "b ", "", "bb", "b"), coded("b", 0, 0, 0, 0, 1)},
		{texts("ab", "a", "abc"), coded("abc a", 0, 2, 1)},
		{texts("", "a"), coded("a", 0, 1)},
		{holed("-", "NA", "", "a"), coded("NA a", 0, 1, 0, 2)},
		{holed("-", "-"), coded("NA NA_character_", 0, 0)},
		{missing(impl.KindNumber, 1), coded("NA_number_ NA 0", 0)},
		{missing(impl.KindLogical, 2), coded("NA 2 FALSE", 0, 0)},
		{numbers(1, 2, 3), coded("3 1", 2, 0, 1)},
		{logicals(0, 2, 1), coded("TRUE", 0, 0, 1)},

		// Numbers and logical values as strings.
		{numbers(1, -1, 0), coded("01 1.0 +1 -0 -1 1/1", 0, 5, 0)},
		{fractions(1, 2, -3, 4, 2, 1), coded("2/4 -3/4 1/2 4/2", 3, 2, 0)},
		{fractions(-1, 3, 1, 3, 0, 0), coded("1/-3 1/3 -1/3", 3, 2, 0)},
		{numbers(999999999, -999999999), coded("999999999 -999999999", 1, 2)},
		{logicals(1, 0, 1), coded("1 0 true T TRUE FALSE", 5, 6, 5)},
		{numbers(1, 0), coded("TRUE FALSE", 0, 0)},

		// Names, classes and levels of the vector.
		{named(texts("b", "z"), "p", ""), named(coded("a b", 2, 0), "p", "")},
		{named(numbers(1), "1"), named(coded("1", 1), "1")},
		{named(logicals(2, 1), "", "q"), named(coded("TRUE", 0, 1), "", "q")},
		{classed(named(texts("b"), "p"), "factor", "d"), named(coded("b", 1), "p")},
		{classed(numbers(1), "factor"), coded("1", 1)},
		{factor(1, 2, 3, 0), coded("high mid", 0, 2, 1, 0)},
		{factor(1, 2), coded("1 2", 0, 0)},
		{coded("2 1", 1, 2), coded("1 2", 2, 1)},
		{named(factor(3, 1), "p", "q"), named(coded("x low high", 3, 2), "p", "q")},
		{classed(levelled(numbers(2, 1), "y", "x"), "c"), coded("x y", 1, 2)},
		{levelled(numbers(2, 2), "y", "x"), coded("x", 1, 1)},
	} {
		v, problem := impl.MakeFactorWith(c.from, c.want.Levels)
		checkResult(t, fmt.Sprintf("factor of %s with %q", fieldsOf(c.from), c.want.Levels), v, problem, c.want)
		checkFactorWith(t, c.from, c.want.Levels)
		checkFactors(t, c.want)
	}
}

// TestOrderOfLevels has the same different elements in many orders, each of them more than once.
func TestOrderOfLevels(t *testing.T) {
	source := rand.New(rand.NewPCG(11, 1))
	for _, c := range []struct {
		from impl.Vector
		want []string
	}{
		{numbers(-100, -21, -20, -3, -1, 0, 1, 2, 9, 10, 11, 20, 99, 100, 101, 999999999), strings.Fields("-100 -21 -20 -3 -1 0 1 2 9 10 11 20 99 100 101 999999999")},
		{fractions(-10, 3, -3, 1, -1, 2, -1, 3, -1, 10, 0, 1, 1, 10, 1, 9, 1, 3, 1, 2, 2, 3, 1, 1, 10, 9), strings.Fields("-10/3 -3 -1/2 -1/3 -1/10 0 1/10 1/9 1/3 1/2 2/3 1 10/9")},
		{texts("\x00", " ", "-1", "10", "9", "A", "NA", "Z", "a", "a b", "aa", "b", "é", "\xff"), []string{"\x00", " ", "-1", "10", "9", "A", "NA", "Z", "a", "a b", "aa", "b", "é", "\xff"}},
		{texts(distinct(20, 60)...), distinct(20, 60)},
		{logicals(0, 1), []string{"FALSE", "TRUE"}},
		{coded("z y x w 10 9", 6, 5, 4, 3, 2, 1), strings.Fields("10 9 w x y z")},
	} {
		for range 200 {
			v := c.from
			v.Items = slices.Clone(v.Items)
			for range source.IntN(40 - len(v.Items) + 1) {
				v.Items = append(v.Items, append(slices.Clone(c.from.Items), missingItem())[source.IntN(len(c.from.Items)+1)])
			}
			source.Shuffle(len(v.Items), func(i int, k int) { v.Items[i], v.Items[k] = v.Items[k], v.Items[i] })
			f, problem := impl.MakeFactor(v)
			want, _ := factorWithByText(v, c.want)
			checkResult(t, "factor of "+fieldsOf(v), f, problem, want)
			checkFactors(t, v)
			checkLevelsAreSorted(t, v, f)
		}
	}
}

// checkLevelsAreSorted compares the levels of the factor f of v with what SortOf and UniqueOf say.
func checkLevelsAreSorted(t *testing.T, v impl.Vector, f impl.Vector) {
	t.Helper()
	resultOf := arranged(t, v)
	sorted := resultOf(impl.SortOf(resultOf(impl.UniqueOf(plainOf(t, v))), false))
	asTexts, _ := impl.CoerceVector(sorted, impl.KindText)
	checkVector(t, "levels of "+fieldsOf(v), impl.TextVector(f.Levels), asTexts)
}

// withoutKnown returns vectors without known elements: without any, and with missing ones, with names and without them.
func withoutKnown() []impl.Vector {
	list := append(emptyParts(), classed(numbers(), "factor"), classed(levelled(numbers(), "u"), "c"), classed(factor(), "factor", "c"), coded("u"), coded("b a c"), levelled(factor(), distinct(20, 60)...))
	for _, v := range slices.Clone(list) {
		for _, count := range []int{1, 2, 3, 39, 40} {
			if v.Kind == impl.KindNull {
				continue
			}
			v.Items = make([]impl.Item, count)
			list = append(list, v, named(v, namesOf(count)...), named(v, append(make([]string, count-1), "n")...))
		}
	}
	return list
}

// TestNoKnownElements has factors too: they have levels all the same.
func TestNoKnownElements(t *testing.T) {
	factors := 0
	for _, v := range withoutKnown() {
		name := fieldsOf(v)
		count := len(v.Items)
		got, problem := impl.MakeFactor(v)
		checkProblem(t, "factor of "+name, got, problem, noLevels)
		for _, levels := range [][]string{{"a"}, {"u", "NA"}, {"NA_character_", "b", "0"}, distinct(20, 60)} {
			got, problem = impl.MakeFactorWith(v, levels)
			checkResult(t, "factor with levels of "+name, got, problem, named(levelled(factor(make([]int, count)...), levels...), v.Names...))
		}
		got, problem = impl.MakeFactorWith(v, nil)
		checkProblem(t, "factor without levels of "+name, got, problem, noLevels)
		got, problem = impl.MakeFactorWith(v, []string{""})
		checkProblem(t, "factor with an empty level of "+name, got, problem, invalidLevels)
		isFactor := len(v.Levels) > 0 && slices.Equal(v.Class, []string{"factor"})
		if isFactor {
			factors++
			got, problem = impl.DropLevels(v)
			checkProblem(t, "levels dropped in "+name, got, problem, noLevels)
			got, problem = impl.TableOf(v)
			checkResult(t, "table of "+name, got, problem, named(numbers(make([]int, len(v.Levels))...), v.Levels...))
			got, problem = impl.FactorText(v)
			checkResult(t, "text of "+name, got, problem, named(missing(impl.KindText, count), v.Names...))
		} else {
			got, problem = impl.DropLevels(v)
			checkProblem(t, "levels dropped in "+name, got, problem, notFactor)
			got, problem = impl.TableOf(v)
			checkProblem(t, "table of "+name, got, problem, noLevels)
		}
		checkFactors(t, v)
		checkJoined(t, v, factor(1, 0))
		checkJoined(t, coded("z"), v)
	}
	if factors < 40 {
		t.Errorf("only %d factors", factors)
	}
}

// badLevels returns levels that no vector may have.
func badLevels() [][]string {
	return [][]string{
		{""}, {"a", ""}, {"", "a"}, {"a", "", "b"}, {"", ""},
		{bytesOf(61)}, {"a", bytesOf(61)}, {bytesOf(61), "a", "b"}, {bytesOf(100000)},
		{"a", "a"}, {"a", "b", "a"}, {"b", "a", "a", "c"}, {"a", "b", "b"}, {bytesOf(60), bytesOf(60)}, append(distinct(19, 3), "000"), append(distinct(19, 3), "018"),
		distinct(21, 3), distinct(22, 60), distinct(40, 3), distinct(41, 3), distinct(100000, 6), slices.Repeat([]string{"a"}, 21), slices.Repeat([]string{"a"}, 100000), make([]string, 21),
	}
}

func TestLevelsThatAreNone(t *testing.T) {
	vectors := []impl.Vector{{}, numbers(), texts(), logicals(), factor(), texts("a"), texts("b", "a"), texts("", "z"), holed("-"), texts("000", "001"), numbers(1, 2), logicals(1, 2), named(texts("a", "b"), "p", ""), factor(1, 2), coded("a b", 2, 1), texts(bytesOf(60)), numbersUpTo(40)}
	for _, levels := range badLevels() {
		for _, v := range vectors {
			got, problem := impl.MakeFactorWith(v, levels)
			checkProblem(t, fmt.Sprintf("factor of %s with %.100q", fieldsOf(v), levels), got, problem, invalidLevels)
		}
	}
	for _, levels := range [][]string{nil, {}, make([]string, 0, 5), distinct(2, 2)[:0]} {
		for _, v := range vectors {
			got, problem := impl.MakeFactorWith(v, levels)
			checkProblem(t, "factor without levels of "+fieldsOf(v), got, problem, noLevels)
		}
	}
	for length := range 70 {
		got, problem := impl.MakeFactorWith(texts("a"), []string{bytesOf(length), "a"})
		if length >= 1 && length <= 60 {
			checkResult(t, "a long level", got, problem, levelled(factor(2), bytesOf(length), "a"))
		} else {
			checkProblem(t, "a level that is empty or too long", got, problem, invalidLevels)
		}
	}
	// Each pair of equal levels, of all numbers of levels.
	for count := 2; count <= 20; count++ {
		for i := range count {
			for k := range i {
				levels := distinct(count, 2)
				levels[i] = levels[k]
				got, problem := impl.MakeFactorWith(texts("00", "01"), levels)
				checkProblem(t, fmt.Sprintf("equal levels %q", levels), got, problem, invalidLevels)
			}
		}
	}
}

// TestNumbersOfLevels has up to 41 levels: given ones, and those of the elements.
func TestNumbersOfLevels(t *testing.T) {
	for count := range 42 {
		names := distinct(count, 5)
		got, problem := impl.MakeFactorWith(texts("00000", "00019"), names)
		switch {
		case count == 0:
			checkProblem(t, "no levels", got, problem, noLevels)
		case count > 20:
			checkProblem(t, fmt.Sprintf("%d levels", count), got, problem, invalidLevels)
		case count == 20:
			checkResult(t, "20 levels", got, problem, levelled(factor(1, 20), names...))
		default:
			checkResult(t, fmt.Sprintf("%d levels", count), got, problem, levelled(factor(1, 0), names...))
		}
		if count == 0 || count == 41 {
			continue
		}
		for _, v := range []impl.Vector{texts(names...), numbersUpTo(count), named(texts(names...), namesOf(count)...), vectorOf(impl.KindText, append(texts(names...).Items, make([]impl.Item, 40-count)...)...)} {
			for name, call := range map[string]func(v impl.Vector) (impl.Vector, string){"factor": impl.MakeFactor, "table": impl.TableOf} {
				got, problem := call(v)
				if count > 20 {
					checkProblem(t, fmt.Sprintf("%s of %d elements", name, count), got, problem, invalidLevels)
				} else if problem != "" || max(len(got.Levels), len(got.Names)) < count {
					t.Errorf("%s of %d elements: %s, %q", name, count, fieldsOf(got), problem)
				}
			}
			checkFactors(t, v)
		}
	}
	for _, c := range []struct{ v, want impl.Vector }{
		{numbersUpTo(20), classed(levelled(numbersUpTo(20), strings.Fields("1 2 3 4 5 6 7 8 9 10 11 12 13 14 15 16 17 18 19 20")...), "factor")},
		{texts(slices.Repeat(distinct(20, 60), 2)...), classed(levelled(numbers(slices.Repeat(numbered(1, 20), 2)...), distinct(20, 60)...), "factor")},
	} {
		got, problem := impl.MakeFactor(c.v)
		checkResult(t, "20 levels", got, problem, c.want)
	}
	for _, v := range []impl.Vector{texts("", "a"), texts("a", ""), texts(""), holed("-", ""), named(texts(""), "a")} {
		got, problem := impl.MakeFactor(v)
		checkProblem(t, "an empty level of "+fieldsOf(v), got, problem, invalidLevels)
		checkFactors(t, v)
	}
}

// TestLengthsOfFactors has 0 to 41 elements, with names and without them.
func TestLengthsOfFactors(t *testing.T) {
	for n := range 42 {
		codes := slices.Repeat([]int{2, 1, 0, 3}, 11)[:n]
		v, want := holed(slices.Repeat([]string{"mid", "low", "-", "high"}, 11)[:n]...), factor(codes...)
		for range 2 {
			got, problem := impl.MakeFactorWith(v, want.Levels)
			text, otherProblem := impl.FactorText(want)
			if n == 41 {
				checkProblem(t, "41 elements", got, problem, invalidVector)
				checkProblem(t, "text of 41 elements", text, otherProblem, notFactor)
			} else {
				checkResult(t, fmt.Sprintf("%d elements", n), got, problem, want)
				checkResult(t, fmt.Sprintf("text of %d elements", n), text, otherProblem, v)
			}
			checkFactors(t, v)
			checkFactors(t, want)
			v, want = named(v, namesOf(n)...), named(want, namesOf(n)...)
		}
	}
}

// almostFactors returns vectors that differ from a factor in one way.
func almostFactors() []impl.Vector {
	levels := levelled(numbers(1, 2), "a", "b")
	return []impl.Vector{
		levels, classed(levels, "Factor"), classed(levels, "factor "), classed(levels, "facto"), classed(levels, "factors"), classed(levels, "ordered"), classed(levels, "data.frame"),
		classed(levels, "factor", "ordered"), classed(levels, "ordered", "factor"), classed(levels, "a", "factor", "b"), classed(levels, "factor", "Factor"),
		classed(named(levels, "factor", ""), "c"), named(levels, "p", "q"), levelled(numbers(), "factor"), levelled(missing(impl.KindNumber, 2), "a"),
		classed(numbers(1), "factor"), classed(numbers(), "factor"), classed(missing(impl.KindNumber, 2), "factor"), classed(named(numbers(1), "a"), "factor"),
		classed(texts("a"), "factor"), classed(logicals(1, 2), "factor"), classed(listOf(), "factor"), classed(listOf(numbers(1)), "factor"), classed(function(1, 2), "factor"),
		{}, numbers(), texts(), logicals(), listOf(), numbers(1), texts("factor"), logicals(1), named(numbers(1), "factor"), function(1, 2), listOf(factor(1)), named(listOf(factor(1, 2)), "a"),
	}
}

// spoiltFactors returns vectors with the class factor that break one rule of vectors.
func spoiltFactors() []impl.Vector {
	return []impl.Vector{
		factor(4), factor(-1), factor(1, 2, 4), classed(levelled(fractions(3, 2), "a", "b"), "factor"), classed(levelled(numbers(0), "a"), "factor"),
		coded("a a", 1, 2), coded("a b a", 1), levelled(factor(1), "a", ""), levelled(factor(1), ""), levelled(factor(1), bytesOf(61)), levelled(factor(1), distinct(21, 2)...),
		classed(factor(1), "factor", "factor"), classed(factor(1), "factor", ""), classed(factor(1), "factor", "a", "b", "c"),
		named(factor(1, 2), "a"), named(factor(1), ""), named(factor(), "a"), factor(make([]int, 41)...), levelled(classed(texts("low"), "factor"), "low"), levelled(classed(logicals(1), "factor"), "low"),
		levelled(classed(listOf(), "factor"), "low"), levelled(classed(impl.Vector{}, "factor"), "low"), levelled(classed(function(1, 2), "factor"), "low"),
		{Kind: impl.KindNumber, Items: []impl.Item{whole(1)}, Levels: []string{"a"}, Class: []string{"factor"}, Code: 1},
		{Kind: impl.KindNumber, Items: []impl.Item{whole(1)}, Levels: []string{"a"}, Class: []string{"factor"}, Parts: []impl.Vector{{}}},
	}
}

func TestIsFactor(t *testing.T) {
	for _, v := range []impl.Vector{
		factor(1), factor(), factor(0), factor(3, 0, 1, 1), named(factor(1, 2), "p", ""), coded("a", 1), coded("factor", 0), levelled(factor(20, 1), distinct(20, 60)...), factor(slices.Repeat([]int{1}, 40)...),
		named(levelled(factor(numbered(1, 20)...), distinct(20, 60)...), distinct(20, 60)...),
	} {
		if !impl.IsFactor(v) {
			t.Errorf("%s is no factor", fieldsOf(v))
		}
		checkFactors(t, v)
	}
	for _, v := range append(almostFactors(), spoiltFactors()...) {
		if impl.IsFactor(v) {
			t.Errorf("%s is a factor", fieldsOf(v))
		}
		got, problem := impl.FactorText(v)
		checkProblem(t, "text of "+fieldsOf(v), got, problem, notFactor)
		got, problem = impl.DropLevels(v)
		checkProblem(t, "levels dropped in "+fieldsOf(v), got, problem, notFactor)
		for _, f := range []impl.Vector{factor(1), factor(), coded("a b", 2, 1), factor(make([]int, 40)...), levelled(factor(), distinct(20, 2)...)} {
			got, problem = impl.CombineFactors(v, f)
			checkProblem(t, fieldsOf(v)+" before a factor", got, problem, notFactor)
			got, problem = impl.CombineFactors(f, v)
			checkProblem(t, fieldsOf(v)+" behind a factor", got, problem, notFactor)
		}
		got, problem = impl.CombineFactors(v, v)
		checkProblem(t, "twice "+fieldsOf(v), got, problem, notFactor)
		checkFactors(t, v)
	}
	for _, v := range spoiltFactors() {
		got, problem := impl.TableOf(v)
		checkProblem(t, "table of "+fieldsOf(v), got, problem, invalidVector)
	}
}

func TestFactorTextInWords(t *testing.T) {
	for _, c := range []struct{ from, want impl.Vector }{
		{coded("a b", 2, 1, 2), texts("b", "a", "b")},
		{factor(3, 1, 2, 1), texts("high", "low", "mid", "low")},
		{factor(0, 2, 0), holed("-", "mid", "-")},
		{coded("NA", 1, 0), holed("NA", "-")},
		{coded("10 9 1/2", 2, 1, 3), texts("9", "10", "1/2")},
		{coded("2 1", 1, 2), texts("2", "1")},
		{factor(0), holed("-")},
		{factor(), texts()},
		{named(factor(3, 0), "p", "q"), named(holed("high", "-"), "p", "q")},
		{named(factor(1, 2), "", "q"), named(texts("low", "mid"), "", "q")},
		{levelled(factor(2, 1), "\x00\xff", bytesOf(60)), texts(bytesOf(60), "\x00\xff")},
		{levelled(factor(20, 10), distinct(20, 2)...), texts("19", "09")},
	} {
		v, problem := impl.FactorText(c.from)
		checkResult(t, "text of "+fieldsOf(c.from), v, problem, c.want)
		checkFactors(t, c.from)
	}
}

func TestDropLevelsInWords(t *testing.T) {
	for _, c := range []struct{ from, want impl.Vector }{
		{factor(3, 1), coded("low high", 2, 1)},
		{factor(2), coded("mid", 1)},
		{factor(3, 3, 3), coded("high", 1, 1, 1)},
		{factor(1, 2), coded("low mid", 1, 2)},
		{factor(3, 2, 1), coded("low mid high", 3, 2, 1)},
		{factor(0, 3, 0, 2), coded("mid high", 0, 2, 0, 1)},
		{coded("d b c a", 4, 2, 4), coded("b a", 2, 1, 2)},
		{coded("d b c a", 1, 3), coded("d c", 1, 2)},
		{coded("10 9 8", 1, 3), coded("10 8", 1, 2)},
		{named(factor(3, 0), "p", "q"), named(coded("high", 1, 0), "p", "q")},
		{named(factor(2, 3), "", "q"), named(coded("mid high", 1, 2), "", "q")},
		{levelled(factor(20, 1), distinct(20, 2)...), coded("00 19", 2, 1)},
		{coded("NA a", 1, 0), coded("NA", 1, 0)},
	} {
		v, problem := impl.DropLevels(c.from)
		checkResult(t, "levels dropped in "+fieldsOf(c.from), v, problem, c.want)
		checkFactors(t, c.from)
	}
	// All sets of levels that occur.
	for set := range 1 << 8 {
		v, want := levelled(factor(), distinct(8, 2)...), factor()
		want.Levels = nil
		for code := 8; code >= 1; code-- {
			if set>>(code-1)&1 == 1 {
				v.Items = append(v.Items, whole(code))
				want.Levels = append([]string{v.Levels[code-1]}, want.Levels...)
			}
		}
		for i := range v.Items {
			want.Items = append(want.Items, whole(len(v.Items)-i))
		}
		got, problem := impl.DropLevels(v)
		if set == 0 {
			checkProblem(t, "no level occurs", got, problem, noLevels)
		} else {
			checkResult(t, "levels dropped in "+fieldsOf(v), got, problem, want)
		}
	}
}

func TestTableOfInWords(t *testing.T) {
	for _, c := range []struct{ from, want impl.Vector }{
		{texts("b", "a", "b"), named(numbers(1, 2), "a", "b")},
		{numbers(3, 3), named(numbers(2), "3")},
		{numbers(10, 9, 10, -1), named(numbers(1, 1, 2), "-1", "9", "10")},
		{fractions(1, 2, 1, 3, 1, 2), named(numbers(1, 2), "1/3", "1/2")},
		{logicals(1, 0, 1, 2), named(numbers(1, 2), "FALSE", "TRUE")},
		{logicals(1), named(numbers(1), "TRUE")},
		{gaps(7, 7), named(numbers(2), "7")},
		{holed("-", "NA", "-"), named(numbers(1), "NA")},
		{named(texts("x", "x"), "p", "q"), named(numbers(2), "x")},
		{classed(texts("x"), "factor"), named(numbers(1), "x")},
		{classed(numbers(5, 4), "factor"), named(numbers(1, 1), "4", "5")},
		{texts(slices.Repeat([]string{"x"}, 40)...), named(numbers(40), "x")},
		{texts(bytesOf(60)), named(numbers(1), bytesOf(60))},

		// A factor has all its levels in their order, and its own names do not matter.
		{factor(3, 1, 3), named(numbers(1, 0, 2), "low", "mid", "high")},
		{factor(2, 0, 0), named(numbers(0, 1, 0), "low", "mid", "high")},
		{named(factor(1, 1), "p", "q"), named(numbers(2, 0, 0), "low", "mid", "high")},
		{coded("z a", 1, 2, 1), named(numbers(2, 1), "z", "a")},
		{coded("10 9 1", 2, 2), named(numbers(0, 2, 0), "10", "9", "1")},
		{factor(), named(numbers(0, 0, 0), "low", "mid", "high")},
		{factor(0), named(numbers(0, 0, 0), "low", "mid", "high")},
		{coded("NA", 0, 1, 0), named(numbers(1), "NA")},
		{levelled(factor(slices.Repeat([]int{20, 20, 1}, 13)...), distinct(20, 60)...), named(numbers(append(append([]int{13}, make([]int, 18)...), 26)...), distinct(20, 60)...)},

		// Levels alone, or beside another class, make no factor: a new one is made of the strings.
		{levelled(numbers(1, 1, 2), "y", "x", "w"), named(numbers(1, 2), "x", "y")},
		{classed(factor(3, 1, 3), "factor", "c"), named(numbers(2, 1), "high", "low")},
		{classed(factor(3, 1, 3), "c"), named(numbers(2, 1), "high", "low")},
	} {
		v, problem := impl.TableOf(c.from)
		checkResult(t, "table of "+fieldsOf(c.from), v, problem, c.want)
		checkFactors(t, c.from)
	}
}

func TestCombineFactorsInWords(t *testing.T) {
	for _, c := range []struct{ f, g, want impl.Vector }{
		{coded("b", 1), coded("a b", 1, 2), coded("b a", 1, 2, 1)},
		// The same levels, also in another order.
		{factor(1, 2), factor(3, 1), factor(1, 2, 3, 1)},
		{coded("a b", 1, 2), coded("b a", 1, 2), coded("a b", 1, 2, 2, 1)},
		{coded("c a b", 1, 2, 3), coded("a b c", 1, 2, 3), coded("c a b", 1, 2, 3, 2, 3, 1)},
		// Partly the same ones.
		{coded("a b", 1, 2), coded("b c", 1, 2), coded("a b c", 1, 2, 2, 3)},
		{coded("a b c", 3, 1), coded("x b y", 1, 2, 3), coded("a b c x y", 3, 1, 4, 2, 5)},
		{coded("z y", 1, 2), coded("a z b y c", 5, 4, 3, 2, 1), coded("z y a b c", 1, 2, 5, 2, 4, 1, 3)},
		{coded("a", 1, 1), coded("c b a", 3, 2, 1), coded("a c b", 1, 1, 1, 3, 2)},
		{coded("a b c", 1), coded("b", 1), coded("a b c", 1, 2)},
		// Different ones.
		{coded("a b", 2, 1), coded("c d", 2, 1), coded("a b c d", 2, 1, 4, 3)},
		{coded("d c", 1), coded("b a", 1), coded("d c b a", 1, 3)},
		{coded("a", 1), coded("A", 1), coded("a A", 1, 2)},
		{coded("1", 1), coded("01", 1), coded("1 01", 1, 2)},
		{coded("10 9", 1, 2), coded("1 11", 1, 2), coded("10 9 1 11", 1, 2, 3, 4)},
		// Levels that do not occur stay.
		{coded("a b c", 2), coded("x y b", 3), coded("a b c x y", 2, 2)},
		{coded("a b c"), coded("x y a"), coded("a b c x y")},
		{factor(), factor(1), factor(1)},
		{factor(3), factor(), factor(3)},
		{coded("a", 1), coded("b"), coded("a b", 1)},
		{coded("a"), coded("b", 1), coded("a b", 2)},
		// Missing elements stay missing, and names are left out.
		{factor(0, 1), coded("x low", 0, 2, 1), coded("low mid high x", 0, 1, 0, 1, 4)},
		{factor(0), factor(0), factor(0, 0)},
		{coded("NA", 1, 0), coded("a NA", 0, 2), coded("NA a", 1, 0, 0, 1)},
		{named(factor(1, 2), "p", "q"), named(factor(3), "r"), factor(1, 2, 3)},
		{named(factor(1), "p"), factor(2), factor(1, 2)},
		{factor(1), named(factor(2, 3), "", "q"), factor(1, 2, 3)},
	} {
		v, problem := impl.CombineFactors(c.f, c.g)
		checkResult(t, fieldsOf(c.f)+" and "+fieldsOf(c.g), v, problem, c.want)
		checkJoined(t, c.f, c.g)
		checkJoined(t, c.g, c.f)
	}
}

// TestFactorsJoinedWithThemselves has each sample that is a factor.
func TestFactorsJoinedWithThemselves(t *testing.T) {
	count := 0
	for _, s := range append(ordinaryVectors(), sample{"20 levels", levelled(factor(numbered(1, 20)...), distinct(20, 60)...)}, sample{"no elements", factor()}, sample{"20 elements", factor(slices.Repeat([]int{3, 0}, 10)...)}, sample{"21 elements", factor(make([]int, 21)...)}) {
		f := s.vector
		checkJoined(t, f, f)
		if !isFactorByText(f) {
			continue
		}
		count++
		v, problem := impl.CombineFactors(f, f)
		if len(f.Items) > 20 {
			checkProblem(t, s.name+" twice", v, problem, tooLarge)
			continue
		}
		want := withoutNames(f)
		want.Items = slices.Repeat(f.Items, 2)
		checkResult(t, s.name+" twice", v, problem, want)
	}
	if count < 5 {
		t.Errorf("only %d factors", count)
	}
}

// TestLengthsOfJoinedFactors has all pairs of lengths.
func TestLengthsOfJoinedFactors(t *testing.T) {
	source := rand.New(rand.NewPCG(11, 2))
	for n := range 41 {
		for m := range 41 {
			f, g := randomFactor(source, n), randomFactor(source, m)
			got, problem := impl.CombineFactors(f, g)
			if n+m > 40 {
				checkProblem(t, fmt.Sprintf("%d and %d elements", n, m), got, problem, tooLarge)
			} else if problem != "" || len(got.Items) != n+m {
				t.Errorf("%d and %d elements: %d, %q", n, m, len(got.Items), problem)
			}
			checkJoined(t, f, g)
		}
	}
}

// TestLevelsOfJoinedFactors has all pairs of numbers of levels, with all numbers of common ones.
func TestLevelsOfJoinedFactors(t *testing.T) {
	for p := 1; p <= 20; p++ {
		for q := 1; q <= 20; q++ {
			for common := range min(p, q) + 1 {
				all := distinct(p+q-common, 3)
				f, g := levelled(factor(p, 1), all[:p]...), levelled(factor(q, 0, 1), all[p-common:]...)
				got, problem := impl.CombineFactors(f, g)
				name := fmt.Sprintf("%d and %d levels, of which %d are the same", p, q, common)
				if p+q-common > 20 {
					checkProblem(t, name, got, problem, invalidLevels)
				} else {
					checkResult(t, name, got, problem, levelled(factor(p, 1, p+q-common, 0, p-common+1), all...))
				}
				slices.Reverse(g.Levels)
				checkJoined(t, f, g)
			}
		}
	}
}

// TestProblemsOfMakeFactorWith has each problem alone and together with each other one that it can stand beside: the first one counts.
func TestProblemsOfMakeFactorWith(t *testing.T) {
	vectors := []impl.Vector{
		{}, numbers(), texts("a", "b"), logicals(2), named(factor(1), "a"), numbersUpTo(40),
		listOf(), listOf(texts("a")), named(classed(listOf(numbers(1), listOf()), "c"), "a", ""), function(1, 2), classed(function(0, 0), "factor"), listOfCells(200), nested(texts("a"), 3),
		numbers(1000000000), texts("a", bytesOf(61)), factor(4), numbersUpTo(41), classed(impl.Vector{}, "a"), {Kind: 6}, {Kind: -1},
		listOf(numbers(1000000000)), named(listOf(), "a"), function(-1000, 0), named(function(1, 2), "a"), nested(texts("a"), 4), listOfCells(201),
	}
	levels := append(badLevels(), nil, []string{}, []string{"a"}, []string{"b", "a", "z"}, distinct(20, 60))
	alone, pairs := map[string]int{}, map[string]int{}
	for _, v := range vectors {
		for _, l := range levels {
			var problems []string
			for _, c := range []struct {
				problem string
				holds   bool
			}{
				{invalidVector, faultOf(v) != ""},
				{notAtomic, v.Kind == impl.KindList || v.Kind == impl.KindFunction},
				{noLevels, len(l) == 0},
				{invalidLevels, faultOf(levelled(numbers(), l...)) != ""},
			} {
				if c.holds {
					problems = append(problems, c.problem)
				}
			}
			got, problem := impl.MakeFactorWith(v, l)
			name := fmt.Sprintf("factor of %s with %.100q", fieldsOf(v), l)
			if len(problems) == 0 {
				want, _ := factorWithByText(v, l)
				checkResult(t, name, got, problem, want)
				continue
			}
			checkProblem(t, name, got, problem, problems[0])
			countProblems(alone, pairs, problems)
		}
	}
	if len(alone) != 4 || len(pairs) != 5 {
		t.Errorf("problems alone: %v, together: %v", alone, pairs)
	}
}

// TestProblemsOfMakeFactor has each problem alone and together with others, also for TableOf, which returns those of MakeFactor.
func TestProblemsOfMakeFactor(t *testing.T) {
	for _, c := range []struct {
		v    impl.Vector
		want string
	}{
		{numbers(1000000000, 5), invalidVector},
		{texts("a", bytesOf(61)), invalidVector},
		{factor(1, 4), invalidVector},
		{named(texts("a"), ""), invalidVector},
		// Also not atomic.
		{listOf(numbers(1000000000)), invalidVector},
		{function(-1000, 0), invalidVector},
		{levelled(listOf(texts("a")), "a"), invalidVector},
		{levelled(classed(function(1, 2), "factor"), "a"), invalidVector},
		// Also without levels.
		{missing(impl.KindText, 41), invalidVector},
		{classed(impl.Vector{}, "a"), invalidVector},
		{named(numbers(), "a"), invalidVector},
		{impl.Vector{Kind: 6}, invalidVector},
		// Also not atomic, and without levels.
		{named(listOf(), "a"), invalidVector},
		// Also with levels that are not valid.
		{texts(distinct(41, 3)...), invalidVector},
		{named(numbersUpTo(21), "a"), invalidVector},
		{texts("", bytesOf(61)), invalidVector},

		{listOf(texts("a")), notAtomic},
		{listOf(factor(1)), notAtomic},
		{classed(named(listOf(texts("a"), numbers(1)), "a", ""), "factor"), notAtomic},
		{function(1, 2), notAtomic},
		{classed(function(1, 2), "factor"), notAtomic},
		{listOf(), notAtomic},
		{listOf(missing(impl.KindText, 1), impl.Vector{}), notAtomic},
		{listOf(texts("")), notAtomic},
		{listOf(texts(distinct(21, 3)...)), notAtomic},
		{listOf(elementsByText(numbersUpTo(21))...), notAtomic},

		{impl.Vector{}, noLevels},
		{texts(), noLevels},
		{missing(impl.KindText, 40), noLevels},
		{classed(missing(impl.KindNumber, 1), "factor"), noLevels},
		{levelled(missing(impl.KindNumber, 1), "a"), noLevels},

		{texts(""), invalidLevels},
		{texts("a", "", "b"), invalidLevels},
		{named(holed("-", ""), "p", "q"), invalidLevels},
		{classed(texts("", ""), "factor"), invalidLevels},
		{numbersUpTo(21), invalidLevels},
		{numbersUpTo(40), invalidLevels},
		{texts(append(distinct(20, 3), "z")...), invalidLevels},
		{texts(append(distinct(20, 3), "")...), invalidLevels},
	} {
		v, problem := impl.MakeFactor(c.v)
		checkProblem(t, "factor of "+fieldsOf(c.v), v, problem, c.want)
		v, problem = impl.TableOf(c.v)
		checkProblem(t, "table of "+fieldsOf(c.v), v, problem, c.want)
		checkFactors(t, c.v)
	}
}

// TestProblemsOfFactors has the problems of the functions that take factors, each alone and together with those behind it.
func TestProblemsOfFactors(t *testing.T) {
	for _, v := range []impl.Vector{levelled(numbers(), "a"), levelled(missing(impl.KindNumber, 2), "a", "b"), classed(factor(0), "factor", "c"), classed(numbers(), "factor"), {}} {
		got, problem := impl.DropLevels(v)
		checkProblem(t, "no factor, and no level occurs in "+fieldsOf(v), got, problem, notFactor)
	}
	many, other := levelled(factor(1), distinct(20, 3)...), coded("z", 1)
	long := levelled(factor(slices.Repeat([]int{1}, 40)...), distinct(20, 3)...)
	almost := func(f impl.Vector) impl.Vector { return classed(f, "factor", "c") }
	for _, c := range []struct {
		f, g impl.Vector
		want string
	}{
		{almost(factor(1)), factor(1), notFactor},
		{factor(1), withoutClass(factor(1)), notFactor},
		{numbers(1), numbers(2), notFactor},
		// Also too many elements, too many levels, or both.
		{factor(make([]int, 40)...), almost(factor(1)), notFactor},
		{numbersUpTo(40), factor(1), notFactor},
		{almost(many), other, notFactor},
		{other, withoutClass(many), notFactor},
		{almost(long), other, notFactor},
		{other, withoutClass(long), notFactor},
		{long, numbersUpTo(41), notFactor},

		{factor(make([]int, 40)...), factor(1), tooLarge},
		{factor(0), factor(make([]int, 40)...), tooLarge},
		{factor(make([]int, 21)...), factor(make([]int, 20)...), tooLarge},
		// Also too many levels.
		{long, other, tooLarge},
		{other, long, tooLarge},

		{many, other, invalidLevels},
		{other, many, invalidLevels},
		{levelled(factor(), distinct(20, 3)...), coded("z"), invalidLevels},
		{levelled(factor(), distinct(11, 3)...), levelled(factor(), distinct(10, 4)...), invalidLevels},
	} {
		v, problem := impl.CombineFactors(c.f, c.g)
		checkProblem(t, fieldsOf(c.f)+" and "+fieldsOf(c.g), v, problem, c.want)
		checkJoined(t, c.f, c.g)
	}
}

// TestFactorsOfInvalidVectors has invalid vectors in each place, also lists that contain themselves.
func TestFactorsOfInvalidVectors(t *testing.T) {
	levelLists := append(badLevels(), nil, []string{"a"}, distinct(20, 60))
	for _, bad := range invalidVectors() {
		b := bad.vector
		check := func(v impl.Vector, problem string) func(want string) {
			return func(want string) {
				t.Helper()
				checkProblem(t, bad.name, v, problem, want)
			}
		}
		check(impl.MakeFactor(b))(invalidVector)
		check(impl.TableOf(b))(invalidVector)
		for _, levels := range levelLists {
			check(impl.MakeFactorWith(b, levels))(invalidVector)
		}
		check(impl.FactorText(b))(notFactor)
		check(impl.DropLevels(b))(notFactor)
		for _, f := range []impl.Vector{factor(1), factor(), factor(make([]int, 40)...), levelled(factor(), distinct(20, 2)...), numbers(1)} {
			check(impl.CombineFactors(b, f))(notFactor)
			check(impl.CombineFactors(f, b))(notFactor)
		}
		check(impl.CombineFactors(b, b))(notFactor)
		if impl.IsFactor(b) {
			t.Errorf("%s is a factor", bad.name)
		}
	}
}

func TestFactorsOfSamples(t *testing.T) {
	list := append(ordinaryVectors(), sample{"a factor", factor(3, 0, 1)}, sample{"other levels", named(coded("mid x low", 1, 2, 3), "p", "", "r")})
	for _, s := range list {
		v := s.vector
		checkFactors(t, v)
		for _, levels := range [][]string{{"a"}, {"TRUE", "FALSE", "NA"}, {"1", "0", "-7/3"}, {"3", "2", "1"}, {"u", "v w"}, {"s", "x", bytesOf(60)}, {"b", "a"}, distinct(20, 60)} {
			checkFactorWith(t, v, levels)
		}
		for _, other := range list {
			checkJoined(t, v, other.vector)
		}
	}
}

// TestFactorsOfAllShortVectors has all vectors of up to 4 elements of a pool, for each kind.
func TestFactorsOfAllShortVectors(t *testing.T) {
	pools := map[int][]impl.Item{
		impl.KindLogical: {whole(0), whole(1), missingItem()},
		impl.KindNumber:  {whole(10), whole(9), ratio(-1, 2), ratio(-1, 3), missingItem()},
		impl.KindText:    {word("b"), word("a"), word("NA"), word(""), missingItem()},
	}
	for kind, pool := range pools {
		eachList(pool, 4, func(list []impl.Item) {
			v := vectorOf(kind, list...)
			checkFactors(t, v)
			checkFactorWith(t, v, []string{"9", "a", "-1/3", "TRUE"})
			checkFactorWith(t, v, []string{"b", "NA"})
		})
	}
	eachList(numbered(0, 3), 4, func(codes []int) {
		for _, f := range []impl.Vector{factor(codes...), coded("c a b", codes...), withoutClass(coded("2 1 10", codes...))} {
			checkFactors(t, f)
			checkFactorWith(t, f, []string{"b", "high", "2", "low"})
			checkJoined(t, f, coded("a mid x c", 4, 2, 0, 1))
			checkJoined(t, coded("a mid x c", 4, 2, 0, 1), f)
		}
	})
}

// randomFactor returns a factor of this length, whose levels are some of 12 strings in any order, with names now and then.
func randomFactor(source *rand.Rand, length int) impl.Vector {
	words := strings.Fields("low mid high a b NA 1 10 9 -1/2 TRUE é")
	source.Shuffle(len(words), func(i int, k int) { words[i], words[k] = words[k], words[i] })
	f := levelled(factor(), words[:source.IntN(len(words))+1]...)
	for range length {
		f.Items = append(f.Items, factor(source.IntN(len(f.Levels)+1)).Items...)
	}
	if source.IntN(2) == 0 {
		f.Names = randomNames(source, length)
	}
	return f
}

func TestFactorsOfRandomVectors(t *testing.T) {
	source := rand.New(rand.NewPCG(11, 3))
	for range 4000 {
		f, g := randomFactor(source, source.IntN(25)), randomFactor(source, source.IntN(25))
		for _, v := range []impl.Vector{f, randomOperand(source, source.IntN(3)+1, source.IntN(41)), randomVector(source, source.IntN(6), 8, 3)} {
			checkFactors(t, v)
			checkFactorWith(t, v, g.Levels)
			checkJoined(t, v, g)
		}
	}
}

// factorAndVector returns a factor, and an atomic vector without names and without the empty string, which could be no level.
func factorAndVector(source *rand.Rand) (impl.Vector, impl.Vector) {
	f := randomFactor(source, source.IntN(21))
	v := randomOperand(source, source.IntN(3)+1, source.IntN(21))
	v.Items = slices.DeleteFunc(v.Items, func(x impl.Item) bool { return x == word("") })
	return f, withoutNames(v)
}

// TestFactorsHaveTheStringsOfTheirElements has levels of the elements, and given ones that leave out some of them.
func TestFactorsHaveTheStringsOfTheirElements(t *testing.T) {
	source := rand.New(rand.NewPCG(11, 4))
	count := 0
	for range 4000 {
		g, v := factorAndVector(source)
		v.Names = randomNames(source, len(v.Items))
		text, _ := impl.CoerceVector(plainOf(t, v), impl.KindText)
		text.Names = v.Names
		f, problem := impl.MakeFactor(v)
		if problem == "" {
			checkVector(t, "strings of a factor", arranged(t, f)(impl.FactorText(f)), text)
			checkVector(t, "strings of a factor whose levels were dropped", arranged(t, f)(impl.DropLevels(f)), f)
			count++
		}
		f, problem = impl.MakeFactorWith(v, g.Levels)
		if problem != "" {
			t.Errorf("factor of %s with %q: %q", fieldsOf(v), g.Levels, problem)
		}
		for i, x := range text.Items {
			if !slices.Contains(g.Levels, x.Text) {
				text.Items[i] = missingItem()
			}
		}
		checkVector(t, "strings of a factor with given levels", arranged(t, f)(impl.FactorText(f)), text)
		if dropped, problem := impl.DropLevels(f); problem == "" {
			checkVector(t, "strings of a factor whose levels were dropped", arranged(t, f)(impl.FactorText(dropped)), text)
			checkVector(t, "levels dropped twice", arranged(t, f)(impl.DropLevels(dropped)), dropped)
		}
	}
	if count < 2000 {
		t.Errorf("only %d factors", count)
	}
}

// TestFactorsAreMadeAgain makes factors of their strings and their levels.
func TestFactorsAreMadeAgain(t *testing.T) {
	source := rand.New(rand.NewPCG(11, 5))
	for range 4000 {
		f, v := factorAndVector(source)
		resultOf := arranged(t, f)
		text := resultOf(impl.FactorText(f))
		checkVector(t, "made again of its strings", resultOf(impl.MakeFactorWith(text, f.Levels)), f)
		checkVector(t, "made again of itself", resultOf(impl.MakeFactorWith(f, f.Levels)), f)
		made, problem := impl.MakeFactor(f)
		other, otherProblem := impl.MakeFactor(text)
		checkOutcome(t, "made of a factor and of its strings", made, problem, other, otherProblem)
		if problem == "" {
			checkVector(t, "made twice", resultOf(impl.MakeFactor(made)), made)
			dropped := resultOf(impl.DropLevels(f))
			sorted := slices.Sorted(slices.Values(dropped.Levels))
			checkVector(t, "levels in order", resultOf(impl.MakeFactorWith(dropped, sorted)), made)
		}
		if g, problem := impl.MakeFactor(v); problem == "" {
			checkVector(t, "made again of its elements", resultOf(impl.MakeFactorWith(v, g.Levels)), g)
			checkVector(t, "matched with its levels", withoutClass(levelled(g)), arranged(t, v)(impl.MatchIn(v, impl.TextVector(g.Levels))))
		}
	}
}

// TestFactorsCountTheirElements compares tables with the elements that are equal to a level, and with their number.
func TestFactorsCountTheirElements(t *testing.T) {
	source := rand.New(rand.NewPCG(11, 6))
	for range 3000 {
		f, v := factorAndVector(source)
		if made, problem := impl.MakeFactor(v); problem == "" {
			checkVector(t, "table of a vector and of its factor", arranged(t, v)(impl.TableOf(v)), arranged(t, v)(impl.TableOf(made)))
		}
		resultOf := arranged(t, f)
		table := resultOf(impl.TableOf(f))
		if !slices.Equal(table.Names, f.Levels) || table.Kind != impl.KindNumber {
			t.Errorf("table of %s: %s", fieldsOf(f), fieldsOf(table))
		}
		for i, level := range f.Levels {
			isEqual := resultOf(impl.CompareVectors("==", f, texts(level)))
			checkVector(t, "count of "+level, vectorOf(impl.KindNumber, table.Items[i]), resultOf(impl.SumOf(isEqual, true)))
		}
		isKnown := resultOf(impl.NotVector(resultOf(impl.MissingIn(f))))
		checkVector(t, "sum of the counts", resultOf(impl.SumOf(table, false)), resultOf(impl.SumOf(isKnown, false)))
		if dropped, problem := impl.DropLevels(f); problem == "" {
			counted := resultOf(impl.SubsetOf(table, resultOf(impl.CompareVectors(">", table, numbers(0)))))
			checkVector(t, "table without levels that do not occur", resultOf(impl.TableOf(dropped)), counted)
		}
	}
}

// TestJoinedFactorsHaveBothStrings also joins three factors in two ways, and adds counts.
func TestJoinedFactorsHaveBothStrings(t *testing.T) {
	source := rand.New(rand.NewPCG(11, 7))
	for range 4000 {
		f, g, h := randomFactor(source, source.IntN(21)), randomFactor(source, source.IntN(11)), randomFactor(source, source.IntN(10))
		resultOf := arranged(t, f)
		joined := resultOf(impl.CombineFactors(f, g))
		both := resultOf(impl.CombineVectors([]impl.Vector{resultOf(impl.FactorText(f)), resultOf(impl.FactorText(g))}, nil))
		checkVector(t, "strings of joined factors", resultOf(impl.FactorText(joined)), withoutNames(both))
		if !slices.Equal(joined.Levels[:len(f.Levels)], f.Levels) {
			t.Errorf("levels of %s and %s: %q", fieldsOf(f), fieldsOf(g), joined.Levels)
		}
		checkVector(t, "joined from the left and from the right",
			resultOf(impl.CombineFactors(joined, h)), resultOf(impl.CombineFactors(f, resultOf(impl.CombineFactors(g, h)))))
		checkVector(t, "joined with no elements", resultOf(impl.CombineFactors(f, levelled(factor(), f.Levels...))), withoutNames(f))
		counts := map[string]int{}
		for _, part := range []impl.Vector{f, g} {
			table := resultOf(impl.TableOf(part))
			for i, x := range table.Items {
				counts[table.Names[i]] += x.Num
			}
		}
		table := resultOf(impl.TableOf(joined))
		if len(table.Items) != len(counts) {
			t.Errorf("levels of %s and %s: %q", fieldsOf(f), fieldsOf(g), joined.Levels)
		}
		for i, x := range table.Items {
			if x != whole(counts[table.Names[i]]) {
				t.Errorf("count of %q in %s and %s: %v", table.Names[i], fieldsOf(f), fieldsOf(g), x)
			}
		}
	}
}

// TestFactorsShareNoMemory also checks that the functions change nothing, not even behind the end of a slice.
func TestFactorsShareNoMemory(t *testing.T) {
	list := append(ordinaryVectors(),
		sample{"a factor", named(factor(3, 0, 1, 2), "a", "b", "c", "d")},
		sample{"all levels", coded("a b c", 1, 2, 3)},
		sample{"no elements", factor()},
		sample{"a class more", classed(factor(2, 1), "factor", "c")},
		sample{"strings", named(holed("low", "-", "b"), "p", "", "q")},
		sample{"numbers", named(gaps(10, 9), "p", "", "q", "")})
	for _, s := range list {
		v := roomy(s.vector)
		before := contentOf(v)
		for _, levels := range [][]string{{"low", "b"}, {"a"}, s.vector.Levels, distinct(20, 60), {"a", "a"}} {
			l := roomySlice(levels, "mark")
			got, _ := impl.MakeFactorWith(v, l)
			checkApart(t, "factor with levels: "+s.name, regionsOf(got), regionsOf(v), regionOf(l))
			got, _ = impl.MakeFactorWith(v, v.Levels)
			checkApart(t, "factor with its levels: "+s.name, regionsOf(got), regionsOf(v))
			got, _ = impl.MakeFactorWith(v, v.Names)
			checkApart(t, "factor with its names: "+s.name, regionsOf(got), regionsOf(v))
			if !slices.Equal(l[:cap(l)], append(slices.Clone(levels), "mark", "mark", "mark")) {
				t.Errorf("%s: the levels have changed: %q", s.name, l[:cap(l)])
			}
		}
		got, _ := impl.MakeFactor(v)
		checkApart(t, "factor: "+s.name, regionsOf(got), regionsOf(v))
		got, _ = impl.FactorText(v)
		checkApart(t, "text: "+s.name, regionsOf(got), regionsOf(v))
		got, _ = impl.DropLevels(v)
		checkApart(t, "levels dropped: "+s.name, regionsOf(got), regionsOf(v))
		got, _ = impl.TableOf(v)
		checkApart(t, "table: "+s.name, regionsOf(got), regionsOf(v))
		impl.IsFactor(v)
		for _, other := range list {
			w := roomy(other.vector)
			beforeOther := contentOf(w)
			got, _ = impl.CombineFactors(v, w)
			checkApart(t, s.name+" and "+other.name, regionsOf(got), regionsOf(v), regionsOf(w))
			if contentOf(w) != beforeOther {
				t.Errorf("%s and %s: the second argument has changed", s.name, other.name)
			}
		}
		got, _ = impl.CombineFactors(v, v)
		checkApart(t, "twice "+s.name, regionsOf(got), regionsOf(v))
		if contentOf(v) != before {
			t.Errorf("%s: the argument has changed", s.name)
		}
	}
}

// TestFactorsInUse checks that changing a result does not change what a second call returns.
func TestFactorsInUse(t *testing.T) {
	f, v := roomy(named(factor(3, 1), "p", "q")), roomy(named(texts("b", "a"), "p", "q"))
	levels := roomySlice([]string{"a", "b"}, "mark")
	before := contentOf(f) + contentOf(v) + fmt.Sprint(levels[:cap(levels)])
	for range 2 {
		got, problem := impl.MakeFactorWith(v, levels)
		checkResult(t, "factor with levels", got, problem, named(coded("a b", 2, 1), "p", "q"))
		got.Levels[0], got.Names[0], got.Class[0], got.Items[0] = "changed", "changed", "changed", whole(9)
		got, problem = impl.MakeFactor(v)
		checkResult(t, "factor", got, problem, named(coded("a b", 2, 1), "p", "q"))
		got.Levels[0], got.Names[0], got.Class[0], got.Items[0] = "changed", "changed", "changed", whole(9)
		got, problem = impl.FactorText(f)
		checkResult(t, "text", got, problem, named(texts("high", "low"), "p", "q"))
		got.Names[0], got.Items[0] = "changed", word("changed")
		got, problem = impl.DropLevels(f)
		checkResult(t, "levels dropped", got, problem, named(coded("low high", 2, 1), "p", "q"))
		got.Levels[0], got.Names[0], got.Class[0], got.Items[0] = "changed", "changed", "changed", whole(9)
		got, problem = impl.TableOf(f)
		checkResult(t, "table", got, problem, named(numbers(1, 0, 1), "low", "mid", "high"))
		got.Names[0], got.Items[0] = "changed", whole(9)
		got, problem = impl.CombineFactors(f, f)
		checkResult(t, "joined", got, problem, factor(3, 1, 3, 1))
		got.Levels[0], got.Class[0], got.Items[0] = "changed", "changed", whole(9)
	}
	if contentOf(f)+contentOf(v)+fmt.Sprint(levels[:cap(levels)]) != before {
		t.Error("an argument has changed")
	}
}
