package tests

import (
	"math"
	"math/big"
	"math/rand/v2"
	"strings"
	"testing"

	"loop.example/g03406/impl"
)

const largest = 999999999

// largestOperand is the largest number that MakeNumber accepts.
const largestOperand = 4000000000000000000

func whole(n int) impl.Item { return impl.Item{Num: n, Den: 1} }

func ratio(n int, d int) impl.Item { return impl.Item{Num: n, Den: d} }

func missingItem() impl.Item { return impl.Item{} }

// notNumbers returns the missing value and other items that are no numbers.
func notNumbers() []impl.Item {
	return []impl.Item{
		{},
		{Num: 1}, {Num: -1}, {Text: "a"}, {Text: "NA"}, {Num: largest}, {Num: math.MinInt}, {Num: math.MaxInt},
		{Num: 0, Den: 2}, {Num: 0, Den: -1}, {Num: 0, Den: largest}, {Num: 0, Den: math.MaxInt}, {Num: 0, Den: math.MinInt},
		{Num: 2, Den: 4}, {Num: -2, Den: 2}, {Num: 6, Den: 3}, {Num: 3, Den: largest}, {Num: largest, Den: largest}, {Num: 500000000, Den: 999999998},
		{Num: 1, Den: -1}, {Num: 1, Den: -2}, {Num: -1, Den: -2}, {Num: -1, Den: -1}, {Num: 2, Den: -largest}, {Num: 1, Den: math.MinInt},
		{Num: largest + 1, Den: 1}, {Num: -largest - 1, Den: 1}, {Num: 1, Den: largest + 1}, {Num: -1, Den: largest + 1}, {Num: largest + 1, Den: 7},
		{Num: math.MaxInt, Den: 1}, {Num: math.MinInt, Den: 1}, {Num: math.MinInt, Den: -1}, {Num: 1, Den: math.MaxInt},
		{Num: math.MaxInt, Den: math.MaxInt}, {Num: math.MinInt, Den: math.MinInt}, {Num: 1<<32 + 1, Den: 1}, {Num: 1, Den: 1<<32 + 1},
		{Num: 1, Den: 1, Text: "a"}, {Num: 0, Den: 1, Text: "a"}, {Num: 0, Den: 1, Text: "0"}, {Num: 1, Den: 2, Text: "1/2"}, {Num: 1, Den: 1, Text: "\x00"}, {Num: 1, Den: 1, Text: " "},
	}
}

// someNumbers returns small numbers, numbers at the limits, and numbers whose squares are just in or out of range.
func someNumbers() []impl.Item {
	positive := []impl.Item{
		whole(1), whole(2), whole(3), whole(7), whole(10), whole(16), whole(31622), whole(31623), whole(333333333), whole(499999999), whole(500000000),
		whole(largest), whole(largest - 1), whole(largest - 2), whole(99999999), whole(100000000),
		ratio(1, 2), ratio(1, 3), ratio(2, 3), ratio(3, 2), ratio(5, 2), ratio(7, 2), ratio(7, 3), ratio(9, 4), ratio(22, 7),
		ratio(1, 31622), ratio(1, 31623), ratio(31622, 31623), ratio(1, 500000000),
		ratio(1, largest), ratio(2, largest), ratio(1, largest-1), ratio(largest-1, largest), ratio(largest, largest-1), ratio(largest-2, largest),
		ratio(largest, 2), ratio(largest-2, 2), ratio(largest, 4), ratio(largest, 500000000), ratio(largest-1, 3),
	}
	list := []impl.Item{whole(0)}
	for _, x := range positive {
		list = append(list, x, ratio(-x.Num, x.Den))
	}
	return list
}

// smallNumbers returns all numbers from -max to max with denominators of at most max.
func smallNumbers(max int) []impl.Item {
	var list []impl.Item
	for d := 1; d <= max; d++ {
		for n := -max; n <= max; n++ {
			if x := ratio(n, d); itemOf(big.NewRat(int64(n), int64(d))) == x {
				list = append(list, x)
			}
		}
	}
	return list
}

// randomNumbers returns numbers with parts of all lengths, the same ones at each call.
func randomNumbers(count int) []impl.Item {
	source := rand.New(rand.NewPCG(20, 2))
	part := func() int64 {
		limit := int64(10)
		for range source.IntN(9) {
			limit *= 10
		}
		return source.Int64N(limit)
	}
	var list []impl.Item
	for len(list) < count {
		n, d := part(), part()
		if source.IntN(2) == 0 {
			n = -n
		}
		if d > 0 {
			list = append(list, itemOf(big.NewRat(n, d)))
		}
	}
	return list
}

// isNumberByText says what the document says about an item with parts of at most 10 digits or any other parts.
func isNumberByText(x impl.Item) bool {
	return x.Text == "" && x.Den >= 1 && x.Den <= largest && x.Num >= -largest && x.Num <= largest &&
		new(big.Int).GCD(nil, nil, big.NewInt(int64(max(x.Num, -x.Num))), big.NewInt(int64(x.Den))).Int64() == 1
}

func ratOf(x impl.Item) *big.Rat { return big.NewRat(int64(x.Num), int64(x.Den)) }

// itemOf returns the missing value for a number out of range.
func itemOf(r *big.Rat) impl.Item {
	limit := big.NewInt(largest)
	if r.Num().CmpAbs(limit) > 0 || r.Denom().Cmp(limit) > 0 {
		return missingItem()
	}
	return ratio(int(r.Num().Int64()), int(r.Denom().Int64()))
}

// floorOf relies on Div, which rounds down for a divisor above 0.
func floorOf(r *big.Rat) *big.Rat {
	return new(big.Rat).SetInt(new(big.Int).Div(r.Num(), r.Denom()))
}

func quotientByText(x *big.Rat, y *big.Rat) *big.Rat {
	return floorOf(new(big.Rat).Quo(x, y))
}

// A binary is a function of two numbers, and what the document says about it; exact returns nil for the missing value.
type binary struct {
	name  string
	call  func(x impl.Item, y impl.Item) impl.Item
	exact func(x *big.Rat, y *big.Rat) *big.Rat
}

func binaries() []binary {
	unlessZero := func(f func(x *big.Rat, y *big.Rat) *big.Rat) func(x *big.Rat, y *big.Rat) *big.Rat {
		return func(x *big.Rat, y *big.Rat) *big.Rat {
			if y.Sign() == 0 {
				return nil
			}
			return f(x, y)
		}
	}
	return []binary{
		{"AddNumbers", impl.AddNumbers, func(x, y *big.Rat) *big.Rat { return new(big.Rat).Add(x, y) }},
		{"SubtractNumbers", impl.SubtractNumbers, func(x, y *big.Rat) *big.Rat { return new(big.Rat).Sub(x, y) }},
		{"MultiplyNumbers", impl.MultiplyNumbers, func(x, y *big.Rat) *big.Rat { return new(big.Rat).Mul(x, y) }},
		{"DivideNumbers", impl.DivideNumbers, unlessZero(func(x, y *big.Rat) *big.Rat { return new(big.Rat).Quo(x, y) })},
		{"QuotientOf", impl.QuotientOf, unlessZero(quotientByText)},
		{"RemainderOf", impl.RemainderOf, unlessZero(func(x, y *big.Rat) *big.Rat {
			return new(big.Rat).Sub(x, new(big.Rat).Mul(y, quotientByText(x, y)))
		})},
	}
}

func checkBinaries(t *testing.T, x impl.Item, y impl.Item) {
	t.Helper()
	for _, b := range binaries() {
		want := missingItem()
		if r := b.exact(ratOf(x), ratOf(y)); r != nil {
			want = itemOf(r)
		}
		if got := b.call(x, y); got != want {
			t.Errorf("%s(%v, %v) = %v, not %v", b.name, x, y, got, want)
		}
	}
	if got, want := impl.CompareNumbers(x, y), ratOf(x).Cmp(ratOf(y)); got != want {
		t.Errorf("CompareNumbers(%v, %v) = %d, not %d", x, y, got, want)
	}
}

func checkUnaries(t *testing.T, x impl.Item) {
	t.Helper()
	r := ratOf(x)
	if got, want := impl.NegateNumber(x), itemOf(new(big.Rat).Neg(r)); got != want {
		t.Errorf("NegateNumber(%v) = %v, not %v", x, got, want)
	}
	if got, want := impl.FloorNumber(x), itemOf(floorOf(r)); got != want {
		t.Errorf("FloorNumber(%v) = %v, not %v", x, got, want)
	}
	half := new(big.Rat).Add(r, big.NewRat(1, 2))
	if got, want := impl.RoundNumber(x), itemOf(floorOf(half)); got != want {
		t.Errorf("RoundNumber(%v) = %v, not %v", x, got, want)
	}
}

func refuseNumber(t *testing.T, s string) {
	t.Helper()
	if x, ok := impl.ParseNumber(s); ok || x != missingItem() {
		t.Errorf("ParseNumber(%q) = %v, %t", s, x, ok)
	}
}

func TestIsNumber(t *testing.T) {
	if impl.MaxNumber != largest {
		t.Error("MaxNumber is", impl.MaxNumber)
	}
	for _, x := range notNumbers() {
		if impl.IsNumber(x) {
			t.Errorf("IsNumber(%v)", x)
		}
	}
	for _, x := range append(someNumbers(), randomNumbers(2000)...) {
		if !impl.IsNumber(x) {
			t.Errorf("not IsNumber(%v)", x)
		}
	}
}

func TestIsNumberOfEachPairOfParts(t *testing.T) {
	parts := []int{math.MinInt, math.MinInt + 1, math.MaxInt - 1, math.MaxInt, -largest - 1, -largest, 1 - largest, largest - 1, largest, largest + 1, 333667}
	for n := -30; n <= 30; n++ {
		parts = append(parts, n)
	}
	for _, n := range parts {
		for _, d := range parts {
			for _, s := range []string{"", "a"} {
				x := impl.Item{Num: n, Den: d, Text: s}
				if impl.IsNumber(x) != isNumberByText(x) {
					t.Errorf("IsNumber(%v)", x)
				}
			}
		}
	}
}

func TestMakeNumber(t *testing.T) {
	cases := []struct {
		n, d int
		want impl.Item
	}{
		{6, 4, ratio(3, 2)}, {6, -4, ratio(-3, 2)}, {-6, 4, ratio(-3, 2)}, {-6, -4, ratio(3, 2)},
		{0, 5, whole(0)}, {0, -5, whole(0)}, {12, 3, whole(4)}, {12, -3, whole(-4)}, {3, 12, ratio(1, 4)}, {1, -1, whole(-1)},
		{largest, 1, whole(largest)}, {-largest, 1, whole(-largest)}, {1, largest, ratio(1, largest)}, {-1, -largest, ratio(1, largest)},
		{largest + 1, 1, missingItem()}, {-largest - 1, 1, missingItem()}, {1, largest + 1, missingItem()}, {1, -largest - 1, missingItem()},
		{largest + 1, 2, whole(500000000)}, {2, largest + 1, ratio(1, 500000000)}, {largest, 3, whole(333333333)}, {2 * largest, 2, whole(largest)}, {2, -2 * largest, ratio(-1, largest)},
		{largest - 1, largest, ratio(largest-1, largest)}, {1000000007, 1000000009, missingItem()},
	}
	for _, c := range cases {
		if x := impl.MakeNumber(c.n, c.d); x != c.want {
			t.Errorf("MakeNumber(%d, %d) = %v, not %v", c.n, c.d, x, c.want)
		}
	}
}

func TestMakeNumberDenominatorZero(t *testing.T) {
	for _, n := range []int{0, 1, -1, 2, largest, -largest, largest + 1, largestOperand, -largestOperand, largestOperand + 1, math.MaxInt, math.MinInt} {
		if x := impl.MakeNumber(n, 0); x != missingItem() {
			t.Errorf("MakeNumber(%d, 0) = %v", n, x)
		}
	}
}

// TestMakeNumberOperands checks all pairs of operands: valid up to the limit, whatever the result, and never beyond it.
func TestMakeNumberOperands(t *testing.T) {
	operands := []int{1, 2, 7, largest, largest + 1, largestOperand / 2, largestOperand / 4, largestOperand / largest, largestOperand - 1, largestOperand, largestOperand + 1, largestOperand + 2, 6000000000000000000, math.MaxInt - 1, math.MaxInt}
	for _, n := range operands[:len(operands):len(operands)] {
		operands = append(operands, -n)
	}
	operands = append(operands, 0, math.MinInt)
	for _, n := range operands {
		for _, d := range operands {
			want := missingItem()
			if d != 0 && n >= -largestOperand && n <= largestOperand && d >= -largestOperand && d <= largestOperand {
				want = itemOf(big.NewRat(int64(n), int64(d)))
			}
			if x := impl.MakeNumber(n, d); x != want {
				t.Errorf("MakeNumber(%d, %d) = %v, not %v", n, d, x, want)
			}
		}
	}
}

func TestMakeNumberOfSmallParts(t *testing.T) {
	for n := -60; n <= 60; n++ {
		for d := -60; d <= 60; d++ {
			if d == 0 {
				continue
			}
			if x, want := impl.MakeNumber(n, d), itemOf(big.NewRat(int64(n), int64(d))); x != want {
				t.Errorf("MakeNumber(%d, %d) = %v, not %v", n, d, x, want)
			}
		}
	}
}

func TestOperationsAreExact(t *testing.T) {
	for _, list := range [][]impl.Item{someNumbers(), smallNumbers(7), randomNumbers(300)} {
		for _, x := range list {
			checkUnaries(t, x)
			for _, y := range list {
				checkBinaries(t, x, y)
			}
		}
	}
}

func TestOperationsAtTheLimits(t *testing.T) {
	top := whole(largest)
	cases := []struct {
		name string
		got  impl.Item
		want impl.Item
	}{
		{"sum above the limit", impl.AddNumbers(top, whole(1)), missingItem()},
		{"sum at the limit", impl.AddNumbers(whole(largest-1), whole(1)), top},
		{"sum with a large denominator", impl.AddNumbers(ratio(1, largest), ratio(1, largest-1)), missingItem()},
		{"sum of large denominators", impl.AddNumbers(ratio(1, largest), ratio(2, largest)), ratio(1, 333333333)},
		{"difference below the limit", impl.SubtractNumbers(whole(-largest), whole(1)), missingItem()},
		{"difference at the limit", impl.SubtractNumbers(whole(1-largest), whole(1)), whole(-largest)},
		{"product above the limit", impl.MultiplyNumbers(whole(31623), whole(31623)), missingItem()},
		{"product in range", impl.MultiplyNumbers(whole(31622), whole(-31622)), whole(-999950884)},
		{"product reduced", impl.MultiplyNumbers(top, ratio(-1, largest)), whole(-1)},
		{"ratio above the limit", impl.DivideNumbers(top, ratio(1, 2)), missingItem()},
		{"ratio at the limit", impl.DivideNumbers(whole(-1), ratio(1, largest)), whole(-largest)},
		{"rounded at the limit", impl.RoundNumber(top), top},
		{"rounded at the lower limit", impl.RoundNumber(whole(-largest)), whole(-largest)},
		{"rounded down from a half below", impl.RoundNumber(ratio(-largest, 2)), whole(-499999999)},
		{"quotient above the limit", impl.QuotientOf(top, ratio(1, 2)), missingItem()},
		{"quotient where the ratio is out of range", impl.QuotientOf(top, ratio(largest, largest-1)), whole(largest - 1)},
		{"quotient of a small number", impl.QuotientOf(ratio(-1, largest), top), whole(-1)},
		{"remainder where the quotient is out of range", impl.RemainderOf(top, ratio(2, largest)), ratio(1, largest)},
		{"remainder out of range", impl.RemainderOf(ratio(-1, largest), top), missingItem()},
		{"remainder of the example", impl.RemainderOf(whole(-7), whole(3)), whole(2)},
		{"remainder with a negative divisor", impl.RemainderOf(whole(7), whole(-3)), whole(-2)},
	}
	for _, c := range cases {
		if c.got != c.want {
			t.Errorf("%s: %v, not %v", c.name, c.got, c.want)
		}
	}
}

func TestDividingByZero(t *testing.T) {
	for _, x := range append(someNumbers(), notNumbers()...) {
		for name, divide := range map[string]func(impl.Item, impl.Item) impl.Item{
			"DivideNumbers": impl.DivideNumbers, "QuotientOf": impl.QuotientOf, "RemainderOf": impl.RemainderOf,
		} {
			if got := divide(x, whole(0)); got != missingItem() {
				t.Errorf("%s(%v, 0) = %v", name, x, got)
			}
		}
	}
}

func TestOperandsThatAreNotNumbers(t *testing.T) {
	all := append(append(someNumbers(), notNumbers()...), whole(20), whole(-20), whole(21))
	for _, bad := range notNumbers() {
		for _, f := range []func(impl.Item) impl.Item{impl.NegateNumber, impl.FloorNumber, impl.RoundNumber} {
			if got := f(bad); got != missingItem() {
				t.Errorf("%v gives %v", bad, got)
			}
		}
		for _, other := range all {
			refuseOperands(t, bad, other)
			refuseOperands(t, other, bad)
		}
	}
}

func refuseOperands(t *testing.T, x impl.Item, y impl.Item) {
	t.Helper()
	for _, b := range append(binaries(), binary{"PowerOf", impl.PowerOf, nil}) {
		if got := b.call(x, y); got != missingItem() {
			t.Errorf("%s(%v, %v) = %v", b.name, x, y, got)
		}
	}
	if got := impl.CompareNumbers(x, y); got != 2 {
		t.Errorf("CompareNumbers(%v, %v) = %d", x, y, got)
	}
}

// powerByText returns the missing value as soon as one step is out of range.
func powerByText(x impl.Item, n int) impl.Item {
	power := big.NewRat(1, 1)
	for range max(n, -n) {
		power.Mul(power, ratOf(x))
		if itemOf(power) == missingItem() {
			return missingItem()
		}
	}
	if n >= 0 {
		return itemOf(power)
	}
	if power.Sign() == 0 {
		return missingItem()
	}
	return itemOf(power.Inv(power))
}

func TestPowerOf(t *testing.T) {
	for _, x := range append(someNumbers(), smallNumbers(9)...) {
		for n := -20; n <= 20; n++ {
			if got, want := impl.PowerOf(x, whole(n)), powerByText(x, n); got != want {
				t.Errorf("PowerOf(%v, %d) = %v, not %v", x, n, got, want)
			}
		}
		if got := impl.PowerOf(x, whole(0)); got != whole(1) {
			t.Errorf("PowerOf(%v, 0) = %v", x, got)
		}
	}
}

func TestPowerOfExponents(t *testing.T) {
	for _, x := range []impl.Item{whole(0), whole(1), whole(-1), whole(2), ratio(1, 2)} {
		for _, y := range someNumbers() {
			if y.Den == 1 && y.Num >= -20 && y.Num <= 20 {
				continue
			}
			if got := impl.PowerOf(x, y); got != missingItem() {
				t.Errorf("PowerOf(%v, %v) = %v", x, y, got)
			}
		}
	}
	cases := []struct{ x, y, want impl.Item }{
		{whole(1), whole(20), whole(1)}, {whole(-1), whole(20), whole(1)}, {whole(-1), whole(-19), whole(-1)}, {whole(1), whole(-20), whole(1)},
		{whole(1), whole(21), missingItem()}, {whole(1), whole(-21), missingItem()}, {whole(1), ratio(1, 2), missingItem()}, {whole(1), ratio(39, 2), missingItem()},
		{whole(2), whole(20), whole(1048576)}, {whole(2), whole(-20), ratio(1, 1048576)}, {ratio(1, 2), whole(-20), whole(1048576)}, {whole(-2), whole(-3), ratio(-1, 8)},
		{whole(10), whole(8), whole(100000000)}, {whole(10), whole(9), missingItem()}, {ratio(1, 10), whole(-9), missingItem()}, {whole(2), ratio(-1, 2), missingItem()},
		{whole(0), whole(20), whole(0)}, {whole(0), whole(1), whole(0)}, {whole(0), whole(0), whole(1)}, {whole(0), whole(-1), missingItem()}, {whole(0), whole(-20), missingItem()},
		{whole(-largest), whole(1), whole(-largest)}, {whole(-largest), whole(-1), ratio(-1, largest)}, {missingItem(), whole(0), missingItem()},
	}
	for _, c := range cases {
		if got := impl.PowerOf(c.x, c.y); got != c.want {
			t.Errorf("PowerOf(%v, %v) = %v, not %v", c.x, c.y, got, c.want)
		}
	}
}

// known reports whether no item is missing: the laws hold only where no result is out of range.
func known(list ...impl.Item) bool {
	for _, x := range list {
		if x == missingItem() {
			return false
		}
	}
	return true
}

func checkLaws(t *testing.T, x impl.Item, y impl.Item, z impl.Item) {
	t.Helper()
	add, multiply := impl.AddNumbers, impl.MultiplyNumbers
	if add(x, y) != add(y, x) || multiply(x, y) != multiply(y, x) {
		t.Errorf("not commutative: %v, %v", x, y)
	}
	if a, b := add(add(x, y), z), add(x, add(y, z)); known(a, b) && a != b {
		t.Errorf("sum not associative: %v, %v, %v", x, y, z)
	}
	if a, b := multiply(multiply(x, y), z), multiply(x, multiply(y, z)); known(a, b) && a != b {
		t.Errorf("product not associative: %v, %v, %v", x, y, z)
	}
	if a, b := multiply(x, add(y, z)), add(multiply(x, y), multiply(x, z)); known(a, b) && a != b {
		t.Errorf("not distributive: %v, %v, %v", x, y, z)
	}
	checkInverses(t, x, y)
}

func checkInverses(t *testing.T, x impl.Item, y impl.Item) {
	t.Helper()
	if d := impl.SubtractNumbers(x, y); known(d) && impl.AddNumbers(d, y) != x {
		t.Errorf("difference and sum: %v, %v", x, y)
	}
	if q := impl.DivideNumbers(x, y); known(q) && impl.MultiplyNumbers(q, y) != x {
		t.Errorf("ratio and product: %v, %v", x, y)
	}
	if impl.AddNumbers(x, impl.NegateNumber(x)) != whole(0) || impl.NegateNumber(impl.NegateNumber(x)) != x {
		t.Errorf("negated: %v", x)
	}
	if impl.AddNumbers(x, whole(0)) != x || impl.MultiplyNumbers(x, whole(1)) != x || impl.MultiplyNumbers(x, whole(0)) != whole(0) {
		t.Errorf("neutral: %v", x)
	}
	if c := impl.CompareNumbers(x, y); impl.CompareNumbers(y, x) != -c || (c == 0) != (x == y) {
		t.Errorf("order: %v, %v", x, y)
	}
}

func TestLawsOfArithmetic(t *testing.T) {
	source := rand.New(rand.NewPCG(2, 2))
	all := append(someNumbers(), randomNumbers(200)...)
	for range 20000 {
		checkLaws(t, all[source.IntN(len(all))], all[source.IntN(len(all))], all[source.IntN(len(all))])
	}
	small := smallNumbers(4)
	for _, x := range small {
		for _, y := range small {
			for _, z := range small {
				checkLaws(t, x, y, z)
			}
		}
	}
}

func TestQuotientsAndRemaindersFitTogether(t *testing.T) {
	list := append(append(someNumbers(), smallNumbers(5)...), randomNumbers(100)...)
	for _, x := range list {
		for _, y := range list {
			q, r := impl.QuotientOf(x, y), impl.RemainderOf(x, y)
			if p := impl.MultiplyNumbers(y, q); known(p, r) && impl.AddNumbers(p, r) != x {
				t.Errorf("%v = %v * %v + %v", x, y, q, r)
			}
			if known(q) && q.Den != 1 {
				t.Errorf("QuotientOf(%v, %v) = %v", x, y, q)
			}
			if !known(r) {
				continue
			}
			sign := impl.CompareNumbers(y, whole(0))
			if s := impl.CompareNumbers(r, whole(0)); s != 0 && s != sign || impl.CompareNumbers(r, y) != -sign {
				t.Errorf("RemainderOf(%v, %v) = %v", x, y, r)
			}
		}
	}
}

func TestFormatNumber(t *testing.T) {
	cases := map[impl.Item]string{
		{}:                          "NA",
		whole(0):                    "0",
		whole(1):                    "1",
		whole(-120):                 "-120",
		whole(largest):              "999999999",
		whole(-largest):             "-999999999",
		ratio(1, 2):                 "1/2",
		ratio(-7, 3):                "-7/3",
		ratio(1, largest):           "1/999999999",
		ratio(-largest, 2):          "-999999999/2",
		ratio(largest-1, largest):   "999999998/999999999",
		ratio(-largest, largest-1):  "-999999999/999999998",
		ratio(2, 4):                 "",
		ratio(0, 2):                 "",
		ratio(1, -2):                "",
		ratio(1, 0):                 "",
		whole(largest + 1):          "",
		{Text: "NA"}:                "",
		{Num: 1, Den: 1, Text: "1"}: "",
	}
	for x, want := range cases {
		if s := impl.FormatNumber(x); s != want {
			t.Errorf("FormatNumber(%v) = %q, not %q", x, s, want)
		}
	}
	for _, x := range notNumbers() {
		if s := impl.FormatNumber(x); x != missingItem() && s != "" {
			t.Errorf("FormatNumber(%v) = %q", x, s)
		}
	}
}

func TestParseNumberReadsFormatNumber(t *testing.T) {
	list := append(append(someNumbers(), smallNumbers(40)...), randomNumbers(2000)...)
	for _, x := range append(list, missingItem()) {
		s := impl.FormatNumber(x)
		if got, ok := impl.ParseNumber(s); got != x || !ok {
			t.Errorf("ParseNumber(%q) = %v, %t", s, got, ok)
		}
	}
}

func TestParseNumberRefuses(t *testing.T) {
	for _, s := range []string{
		"", " ", "/", "//", "-", "+", "-/", "1/", "/2", "/-2", "-/2", "1//2", "1/2/3", "1/2/", "/1/2", "1/-2", "-1/-2", "1/+2", "+1/2", "+1", "--1",
		"4/2", "2/4", "6/3", "3/1", "0/1", "0/2", "-0", "-0/1", "00", "1/1", "-1/1", "2/2", "3/999999999", "999999999/999999999",
		"1/0", "0/0", "-1/0", "1/00", "1/02", "01/2", "-01", "007", "1/-0",
		"1000000000", "-1000000000", "1/1000000000", "1000000000/3", "1/9999999999", "9223372036854775807", "18446744073709551617", "1/18446744073709551618", strings.Repeat("1", 100),
		" 1", "1 ", "1 /2", "1/ 2", "1/2 ", "1/2\n", "\n1", "1\x00", "1.5", "1e2", "0x1", "1_0", "1:2", "1\\2", "\xff", "1/\xff", "\uff11",
		"NA ", " NA", "na", "Na", "NA/1", "NA/2", "1/NA", "-NA", "NAN", "NaN", "NA_number_", "NULL", "TRUE", "Inf", "N", "A",
	} {
		refuseNumber(t, s)
	}
}

func TestParseNumberAcceptsOneTextForEachNumber(t *testing.T) {
	accepted := 0
	for _, s := range wordsOver("-+/0129NA ", 5) {
		x, ok := impl.ParseNumber(s)
		if !ok {
			refuseNumber(t, s)
			continue
		}
		accepted++
		if s == "" || impl.FormatNumber(x) != s {
			t.Errorf("ParseNumber(%q) = %v", s, x)
		}
	}
	if accepted != textsOfNumbers("-/0129", 5)+1 {
		t.Error("accepted", accepted)
	}
}

// textsOfNumbers counts the texts over the alphabet that math/big writes for numbers, and that it would not write otherwise.
func textsOfNumbers(alphabet string, length int) int {
	count := 0
	for _, s := range wordsOver(alphabet, length) {
		if r, ok := new(big.Rat).SetString(s); ok && itemOf(r) != missingItem() && r.RatString() == s {
			count++
		}
	}
	return count
}
