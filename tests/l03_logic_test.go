package tests

import (
	"math"
	"math/rand/v2"
	"slices"
	"testing"

	"loop.example/g03406/impl"
)

// otherLogicals returns ints that are neither 0, 1 nor 2: small ones, those at the limits, and those that end in the bits of 0, 1 or 2.
func otherLogicals() []int {
	list := []int{-4, -3, -2, -1, 3, 4, 5, 6, 7, 8, 9, 10, 42, 97, 999999999, -999999999, math.MaxInt, math.MaxInt - 1, math.MinInt, math.MinInt + 1, math.MinInt + 2}
	for _, high := range []int{1 << 8, 1 << 16, 1 << 31, 1 << 32, 1 << 62, -1 << 8, -1 << 16, -1 << 32} {
		list = append(list, high, high+1, high+2)
	}
	return list
}

func someLogicals() []int {
	return append([]int{0, 1, 2}, otherLogicals()...)
}

// logicalByText says which value an int stands for.
func logicalByText(x int) int {
	if x == 0 || x == 1 {
		return x
	}
	return 2
}

// A connective is a function of two logical values, with its table: the row is the first operand, the column the second one.
type connective struct {
	name  string
	call  func(x int, y int) int
	table [3][3]int
}

func connectives() []connective {
	return []connective{
		{"AndLogical", impl.AndLogical, [3][3]int{{0, 0, 0}, {0, 1, 2}, {0, 2, 2}}},
		{"OrLogical", impl.OrLogical, [3][3]int{{0, 1, 2}, {1, 1, 1}, {2, 1, 2}}},
		{"XorLogical", impl.XorLogical, [3][3]int{{0, 1, 2}, {1, 0, 2}, {2, 2, 2}}},
	}
}

// listsOver returns every list of at most length elements of values, the empty one included.
func listsOver(values []int, length int) [][]int {
	all := [][]int{nil}
	last := [][]int{nil}
	for range length {
		var next [][]int
		for _, list := range last {
			for _, x := range values {
				next = append(next, append(slices.Clone(list), x))
			}
		}
		all = append(all, next...)
		last = next
	}
	return all
}

// completions returns every list of zeros and ones that has the known values of list where list has them.
func completions(list []int) [][]int {
	all := [][]int{nil}
	for _, x := range list {
		var next [][]int
		for _, start := range all {
			if x != 1 {
				next = append(next, append(slices.Clone(start), 0))
			}
			if x != 0 {
				next = append(next, append(slices.Clone(start), 1))
			}
		}
		all = next
	}
	return all
}

// agreed returns the value that f has for all completions of list, and 2 if it has different ones.
func agreed(list []int, f func(values []int) bool) int {
	seen := map[bool]bool{}
	for _, values := range completions(list) {
		seen[f(values)] = true
	}
	switch {
	case seen[true] && seen[false]:
		return 2
	case seen[true]:
		return 1
	}
	return 0
}

func isAll(values []int) bool { return !slices.Contains(values, 0) }

func isAny(values []int) bool { return slices.Contains(values, 1) }

func checkFolds(t *testing.T, list []int, all int, some int) {
	t.Helper()
	if got := impl.AllLogical(list); got != all {
		t.Errorf("AllLogical(%v) = %d, not %d", list, got, all)
	}
	if got := impl.AnyLogical(list); got != some {
		t.Errorf("AnyLogical(%v) = %d, not %d", list, got, some)
	}
}

func TestNotLogical(t *testing.T) {
	for x, want := range map[int]int{0: 1, 1: 0, 2: 2} {
		if got := impl.NotLogical(x); got != want {
			t.Errorf("NotLogical(%d) = %d, not %d", x, got, want)
		}
	}
	for _, x := range otherLogicals() {
		if got := impl.NotLogical(x); got != 2 {
			t.Errorf("NotLogical(%d) = %d, not 2", x, got)
		}
	}
}

// TestConnectives also has the pairs in which one or both operands are ints that stand for the missing value.
func TestConnectives(t *testing.T) {
	for _, c := range connectives() {
		for _, x := range someLogicals() {
			for _, y := range someLogicals() {
				want := c.table[logicalByText(x)][logicalByText(y)]
				if got := c.call(x, y); got != want {
					t.Errorf("%s(%d, %d) = %d, not %d", c.name, x, y, got, want)
				}
			}
		}
	}
}

func TestConnectivesOfRandomInts(t *testing.T) {
	source := rand.New(rand.NewPCG(3, 3))
	for range 2000 {
		x := int(source.Uint64())
		if got := impl.NotLogical(x); got != [3]int{1, 0, 2}[logicalByText(x)] {
			t.Errorf("NotLogical(%d) = %d", x, got)
		}
		y := []int{0, 1, 2, int(source.Uint64())}[source.IntN(4)]
		for _, c := range connectives() {
			if got, want := c.call(x, y), c.table[logicalByText(x)][logicalByText(y)]; got != want {
				t.Errorf("%s(%d, %d) = %d, not %d", c.name, x, y, got, want)
			}
			if got, want := c.call(y, x), c.table[logicalByText(y)][logicalByText(x)]; got != want {
				t.Errorf("%s(%d, %d) = %d, not %d", c.name, y, x, got, want)
			}
		}
	}
}

// TestMissingCouldBeEither checks that a result is known exactly if it does not matter what the missing operands are.
func TestMissingCouldBeEither(t *testing.T) {
	for _, x := range someLogicals() {
		for _, y := range someLogicals() {
			pair := []int{x, y}
			if got, want := impl.AndLogical(x, y), agreed(pair, isAll); got != want {
				t.Errorf("AndLogical(%d, %d) = %d, not %d", x, y, got, want)
			}
			if got, want := impl.OrLogical(x, y), agreed(pair, isAny); got != want {
				t.Errorf("OrLogical(%d, %d) = %d, not %d", x, y, got, want)
			}
			differ := func(values []int) bool { return values[0] != values[1] }
			if got, want := impl.XorLogical(x, y), agreed(pair, differ); got != want {
				t.Errorf("XorLogical(%d, %d) = %d, not %d", x, y, got, want)
			}
		}
	}
}

func TestLawsOfDeMorgan(t *testing.T) {
	not := impl.NotLogical
	for _, x := range someLogicals() {
		for _, y := range someLogicals() {
			if got, want := not(impl.AndLogical(x, y)), impl.OrLogical(not(x), not(y)); got != want {
				t.Errorf("not (%d and %d) = %d, not %d", x, y, got, want)
			}
			if got, want := not(impl.OrLogical(x, y)), impl.AndLogical(not(x), not(y)); got != want {
				t.Errorf("not (%d or %d) = %d, not %d", x, y, got, want)
			}
		}
	}
}

func TestLawsOfDeMorganForLists(t *testing.T) {
	for _, list := range listsOver([]int{0, 1, 2, -1}, 6) {
		var negated []int
		for _, x := range list {
			negated = append(negated, impl.NotLogical(x))
		}
		if got, want := impl.NotLogical(impl.AllLogical(list)), impl.AnyLogical(negated); got != want {
			t.Errorf("not all of %v = %d, not %d", list, got, want)
		}
		if got, want := impl.NotLogical(impl.AnyLogical(list)), impl.AllLogical(negated); got != want {
			t.Errorf("not any of %v = %d, not %d", list, got, want)
		}
	}
}

func checkLogicalLaws(t *testing.T, x int, y int, z int) {
	t.Helper()
	not, and, or, xor := impl.NotLogical, impl.AndLogical, impl.OrLogical, impl.XorLogical
	laws := []struct {
		name      string
		got, want int
	}{
		{"double negation", not(not(x)), logicalByText(x)},
		{"and with itself", and(x, x), logicalByText(x)},
		{"or with itself", or(x, x), logicalByText(x)},
		{"and with true", and(x, 1), logicalByText(x)},
		{"or with false", or(x, 0), logicalByText(x)},
		{"xor with false", xor(x, 0), logicalByText(x)},
		{"and with false", and(x, 0), 0},
		{"or with true", or(x, 1), 1},
		{"xor with true", xor(x, 1), not(x)},
		{"and absorbs", and(x, or(x, y)), logicalByText(x)},
		{"or absorbs", or(x, and(x, y)), logicalByText(x)},
		{"and in either order", and(x, y), and(y, x)},
		{"or in either order", or(x, y), or(y, x)},
		{"xor in either order", xor(x, y), xor(y, x)},
		{"xor by the others", xor(x, y), or(and(x, not(y)), and(not(x), y))},
		{"and is associative", and(and(x, y), z), and(x, and(y, z))},
		{"or is associative", or(or(x, y), z), or(x, or(y, z))},
		{"xor is associative", xor(xor(x, y), z), xor(x, xor(y, z))},
		{"and over or", and(x, or(y, z)), or(and(x, y), and(x, z))},
		{"or over and", or(x, and(y, z)), and(or(x, y), or(x, z))},
	}
	for _, l := range laws {
		if l.got != l.want {
			t.Errorf("%s: %d, not %d, for %d, %d and %d", l.name, l.got, l.want, x, y, z)
		}
	}
}

func TestLawsOfLogic(t *testing.T) {
	values := []int{0, 1, 2, 3, -1, 256, 257, 1 << 32, 1<<32 + 1, math.MaxInt, math.MinInt, math.MinInt + 1}
	for _, x := range values {
		for _, y := range values {
			for _, z := range values {
				checkLogicalLaws(t, x, y, z)
			}
		}
	}
}

func TestFoldsOfLists(t *testing.T) {
	cases := []struct {
		list      []int
		all, some int
	}{
		{nil, 1, 0}, {[]int{}, 1, 0},
		{[]int{0}, 0, 0}, {[]int{1}, 1, 1}, {[]int{2}, 2, 2}, {[]int{3}, 2, 2}, {[]int{-1}, 2, 2}, {[]int{math.MinInt}, 2, 2}, {[]int{256}, 2, 2}, {[]int{257}, 2, 2},
		{[]int{1, 1, 1}, 1, 1}, {[]int{0, 0, 0}, 0, 0}, {[]int{2, 2, 2}, 2, 2}, {[]int{7, -7, 3}, 2, 2},
		{[]int{1, 0}, 0, 1}, {[]int{0, 1}, 0, 1}, {[]int{1, 1, 0}, 0, 1}, {[]int{0, 0, 1}, 0, 1},
		{[]int{1, 2}, 2, 1}, {[]int{2, 1}, 2, 1}, {[]int{0, 2}, 0, 2}, {[]int{2, 0}, 0, 2},
		{[]int{1, 1, 5}, 2, 1}, {[]int{5, 1, 1}, 2, 1}, {[]int{0, 0, 5}, 0, 2}, {[]int{5, 0, 0}, 0, 2},
		{[]int{2, 0, 1}, 0, 1}, {[]int{-1, 1, 0}, 0, 1}, {[]int{0, 9, 1}, 0, 1}, {[]int{1, 9, 0}, 0, 1},
	}
	for _, c := range cases {
		checkFolds(t, c.list, c.all, c.some)
	}
	for _, x := range someLogicals() {
		checkFolds(t, []int{x}, logicalByText(x), logicalByText(x))
	}
}

// TestFoldsOfAllShortLists compares with what the completions say, and with the functions of two values, one by one from the left.
func TestFoldsOfAllShortLists(t *testing.T) {
	for _, list := range listsOver([]int{0, 1, 2, 3, -1}, 5) {
		checkFolds(t, list, agreed(list, isAll), agreed(list, isAny))
		all, some := 1, 0
		for _, x := range list {
			all, some = impl.AndLogical(all, x), impl.OrLogical(some, x)
		}
		checkFolds(t, list, all, some)
	}
}

// TestFoldsOfLongLists has lists that are longer than any vector, with one element or two that decide.
func TestFoldsOfLongLists(t *testing.T) {
	const length = 1000
	for _, fill := range []int{0, 1, 2, -9} {
		list := slices.Repeat([]int{fill}, length)
		checkFolds(t, list, logicalByText(fill), logicalByText(fill))
		for _, x := range []int{0, 1, 2, math.MaxInt} {
			for _, i := range []int{0, 1, length / 2, length - 1} {
				changed := slices.Clone(list)
				changed[i] = x
				checkFolds(t, changed, impl.AndLogical(fill, x), impl.OrLogical(fill, x))
			}
		}
	}
}

func TestFoldsOfJoinedLists(t *testing.T) {
	lists := listsOver([]int{0, 1, 2, 8}, 3)
	for _, a := range lists {
		for _, b := range lists {
			all := impl.AndLogical(impl.AllLogical(a), impl.AllLogical(b))
			some := impl.OrLogical(impl.AnyLogical(a), impl.AnyLogical(b))
			checkFolds(t, slices.Concat(a, b), all, some)
		}
	}
}

// TestFoldsKeepTheirArgument also looks at the elements behind the end of the slice.
func TestFoldsKeepTheirArgument(t *testing.T) {
	list := []int{7, 1, -3, 0, 2, 5, 1, 0}
	kept := slices.Clone(list)
	checkFolds(t, list[:4], 0, 1)
	checkFolds(t, list[4:6], 2, 2)
	if !slices.Equal(list, kept) {
		t.Errorf("%v has become %v", kept, list)
	}
}
