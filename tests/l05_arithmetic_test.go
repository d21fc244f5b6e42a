package tests

import (
	"math/big"
	"math/rand/v2"
	"slices"
	"strconv"
	"strings"
	"testing"

	"loop.example/g03406/impl"
)

const (
	unknownOperator  = "unknown operator"
	nonNumeric       = "non-numeric argument"
	nonLogical       = "non-logical argument"
	notAtomic        = "not an atomic vector"
	unmatchedLengths = "lengths do not match"
	lengthZero       = "replacement has length zero"
)

// A family is one of the functions that take an operator and two operands, and what the document says about it.
type family struct {
	name     string
	call     func(op string, a impl.Vector, b impl.Vector) (impl.Vector, string)
	ops      []string
	kind     int
	suits    func(v impl.Vector) bool
	unsuited string
	element  func(op string, a impl.Vector, x impl.Item, b impl.Vector, y impl.Item) impl.Item
}

func families() []family {
	return []family{
		{"ArithmeticOf", impl.ArithmeticOf, []string{"+", "-", "*", "/", "^", "%%", "%/%"}, impl.KindNumber, isNumericByText, nonNumeric, arithmeticByText},
		{"CompareVectors", impl.CompareVectors, []string{"==", "!=", "<", "<=", ">", ">="}, impl.KindLogical, isAtomicByText, notAtomic, comparedByText},
		{"LogicOf", impl.LogicOf, []string{"&", "|"}, impl.KindLogical, isNumericByText, nonLogical, logicByText},
	}
}

func isNumericByText(v impl.Vector) bool {
	return slices.Contains([]int{0, 1, 2}, v.Kind) && len(v.Levels) == 0
}

func isAtomicByText(v impl.Vector) bool {
	return v.Kind != impl.KindList && v.Kind != impl.KindFunction
}

// arithmeticByText relies on rational numbers of any size.
func arithmeticByText(op string, _ impl.Vector, x impl.Item, _ impl.Vector, y impl.Item) impl.Item {
	if x == missingItem() || y == missingItem() {
		return missingItem()
	}
	if op == "^" {
		if y.Den != 1 || y.Num < -20 || y.Num > 20 {
			return missingItem()
		}
		return powerByText(x, y.Num)
	}
	function := map[string]string{"+": "AddNumbers", "-": "SubtractNumbers", "*": "MultiplyNumbers", "/": "DivideNumbers", "%%": "RemainderOf", "%/%": "QuotientOf"}[op]
	i := slices.IndexFunc(binaries(), func(b binary) bool { return b.name == function })
	if r := binaries()[i].exact(ratOf(x), ratOf(y)); r != nil {
		return itemOf(r)
	}
	return missingItem()
}

func truth(isTrue bool) impl.Item {
	if isTrue {
		return whole(1)
	}
	return whole(0)
}

// isTextByText reports whether v is a text vector when it is plain.
func isTextByText(v impl.Vector) bool {
	return v.Kind == impl.KindText || len(v.Levels) > 0
}

// plainTextOf returns the string of a known element of v, taken plain.
func plainTextOf(v impl.Vector, x impl.Item) string {
	if len(v.Levels) > 0 {
		return v.Levels[x.Num-1]
	}
	return coercedByText(x, v.Kind, impl.KindText).Text
}

func comparedByText(op string, a impl.Vector, x impl.Item, b impl.Vector, y impl.Item) impl.Item {
	if x == missingItem() || y == missingItem() {
		return missingItem()
	}
	difference := ratOf(x).Cmp(ratOf(y))
	if isTextByText(a) || isTextByText(b) {
		difference = strings.Compare(plainTextOf(a, x), plainTextOf(b, y))
	}
	switch op {
	case "==":
		return truth(difference == 0)
	case "!=":
		return truth(difference != 0)
	case "<":
		return truth(difference < 0)
	case "<=":
		return truth(difference <= 0)
	case ">":
		return truth(difference > 0)
	}
	return truth(difference >= 0)
}

// logicalOfItem returns 0, 1 or 2 as chapter 3 does.
func logicalOfItem(x impl.Item) int {
	switch x {
	case missingItem():
		return 2
	case whole(0):
		return 0
	}
	return 1
}

// logicByText tries what the missing elements could be.
func logicByText(op string, _ impl.Vector, x impl.Item, _ impl.Vector, y impl.Item) impl.Item {
	fold := map[string]func([]int) bool{"&": isAll, "|": isAny}[op]
	return logicals(agreed([]int{logicalOfItem(x), logicalOfItem(y)}, fold)).Items[0]
}

// problemByText returns the first problem of two operands, which must not be circular.
func (f family) problemByText(op string, a impl.Vector, b impl.Vector) string {
	m, n := len(a.Items), len(b.Items)
	switch {
	case faultOf(a) != "" || faultOf(b) != "":
		return invalidVector
	case !slices.Contains(f.ops, op):
		return unknownOperator
	case !f.suits(a) || !f.suits(b):
		return f.unsuited
	case m > 0 && n > 0 && m%n != 0 && n%m != 0:
		return unmatchedLengths
	}
	return ""
}

// resultByText repeats the elements of both operands up to the length of the longer one.
func (f family) resultByText(op string, a impl.Vector, b impl.Vector) impl.Vector {
	v := impl.Vector{Kind: f.kind}
	m, n := len(a.Items), len(b.Items)
	if m == 0 || n == 0 {
		return v
	}
	length := max(m, n)
	left, right := slices.Repeat(a.Items, length/m), slices.Repeat(b.Items, length/n)
	for i := range length {
		v.Items = append(v.Items, f.element(op, a, left[i], b, right[i]))
	}
	if m == length && len(a.Names) > 0 {
		v.Names = a.Names
	} else if n == length {
		v.Names = b.Names
	}
	return v
}

func (f family) check(t *testing.T, name string, op string, a impl.Vector, b impl.Vector) {
	t.Helper()
	name = f.name + " " + op + " of " + name
	v, problem := f.call(op, a, b)
	if want := f.problemByText(op, a, b); want != "" {
		checkProblem(t, name, v, problem, want)
		return
	}
	checkResult(t, name, v, problem, f.resultByText(op, a, b))
	if !impl.IsVector(v) {
		t.Errorf("%s: no vector", name)
	}
}

func (f family) checkAll(t *testing.T, name string, a impl.Vector, b impl.Vector) {
	t.Helper()
	for _, op := range f.ops {
		f.check(t, name, op, a, b)
	}
}

// missing returns a vector of the kind with missing elements only.
func missing(kind int, length int) impl.Vector {
	return vectorOf(kind, make([]impl.Item, length)...)
}

// factor returns a factor with the levels low, mid and high; the code 0 stands for a missing element.
func factor(codes ...int) impl.Vector {
	v := classed(levelled(vectorOf(impl.KindNumber), "low", "mid", "high"), "factor")
	for _, code := range codes {
		x := whole(code)
		if code == 0 {
			x = missingItem()
		}
		v.Items = append(v.Items, x)
	}
	return v
}

// A table of operations in words: the operator, the operands and the result.
type operation struct {
	op         string
	a, b, want impl.Vector
}

func checkOperations(t *testing.T, call func(op string, a impl.Vector, b impl.Vector) (impl.Vector, string), list []operation) {
	t.Helper()
	for _, c := range list {
		v, problem := call(c.op, c.a, c.b)
		checkResult(t, fieldsOf(c.a)+" "+c.op+" "+fieldsOf(c.b), v, problem, c.want)
	}
}

func TestArithmeticOfInWords(t *testing.T) {
	null, none := impl.Vector{}, vectorOf(impl.KindNumber)
	half, gap := vectorOf(impl.KindNumber, ratio(1, 2)), vectorOf(impl.KindNumber, whole(1), missingItem())
	checkOperations(t, impl.ArithmeticOf, []operation{
		{"+", numbers(1, 2, 3, 4), numbers(10, 20), numbers(11, 22, 13, 24)},
		{"+", numbers(10, 20), numbers(1, 2, 3, 4), numbers(11, 22, 13, 24)},
		{"-", numbers(1, 2, 3, 4), numbers(10, 20), numbers(-9, -18, -7, -16)},
		{"-", numbers(10, 20), numbers(1, 2, 3, 4), numbers(9, 18, 7, 16)},
		{"*", numbers(1, 2, 3), numbers(-2), numbers(-2, -4, -6)},
		{"/", numbers(1, 3), numbers(2, 6), vectorOf(impl.KindNumber, ratio(1, 2), ratio(1, 2))},
		{"/", numbers(1, 1), numbers(0, 2), vectorOf(impl.KindNumber, missingItem(), ratio(1, 2))},
		{"^", numbers(2, 3, 2, 0), numbers(3, 2, -1, 0), vectorOf(impl.KindNumber, whole(8), whole(9), ratio(1, 2), whole(1))},
		{"^", numbers(4), half, missing(impl.KindNumber, 1)},
		{"^", numbers(10), numbers(8, 9, -8, 21), vectorOf(impl.KindNumber, whole(100000000), missingItem(), ratio(1, 100000000), missingItem())},
		{"^", missing(impl.KindNumber, 1), numbers(0), missing(impl.KindNumber, 1)},
		{"%%", numbers(-7, 7, 7, 7), numbers(3, -3, 3, 0), vectorOf(impl.KindNumber, whole(2), whole(-2), whole(1), missingItem())},
		{"%/%", numbers(-7, 7, 7, 7), numbers(3, -3, 3, 0), vectorOf(impl.KindNumber, whole(-3), whole(-3), whole(2), missingItem())},
		{"%%", half, numbers(2), half},
		{"+", numbers(999999999), numbers(0, 1), vectorOf(impl.KindNumber, whole(999999999), missingItem())},
		{"+", gap, numbers(1), vectorOf(impl.KindNumber, whole(2), missingItem())},
		{"*", numbers(0, 0), gap, vectorOf(impl.KindNumber, whole(0), missingItem())},
		{"+", gap, vectorOf(impl.KindNumber, missingItem(), whole(1)), missing(impl.KindNumber, 2)},
		{"+", logicals(1, 0, 2), logicals(1), vectorOf(impl.KindNumber, whole(2), whole(1), missingItem())},
		{"-", logicals(0), half, vectorOf(impl.KindNumber, ratio(-1, 2))},
		{"+", null, null, none},
		{"+", null, numbers(1, 2, 3), none},
		{"+", numbers(1, 2, 3), null, none},
		{"+", null, logicals(), none},
		{"*", logicals(), logicals(1, 0), none},
		{"/", none, named(numbers(1), "a"), none},
		{"/", named(numbers(1), "a"), none, none},
		{"+", classed(numbers(1), "money"), classed(logicals(1), "flag"), numbers(2)},
	})
}

func TestArithmeticOfNumbers(t *testing.T) {
	list := slices.Concat(someNumbers(), smallNumbers(4), []impl.Item{missingItem()})
	arithmetic := families()[0]
	for i := 0; i < len(list); i += 40 {
		a := vectorOf(impl.KindNumber, list[i:min(i+40, len(list))]...)
		for _, y := range list {
			arithmetic.checkAll(t, "numbers", a, vectorOf(impl.KindNumber, y))
			arithmetic.checkAll(t, "numbers", vectorOf(impl.KindNumber, y), a)
		}
	}
}

// TestLengths has each pair of lengths, those that do not divide each other included.
func TestLengths(t *testing.T) {
	for m := range 41 {
		for n := range 41 {
			for _, f := range families() {
				f.checkAll(t, strconv.Itoa(m)+" and "+strconv.Itoa(n)+" elements", numbersUpTo(m), numbersUpTo(n))
			}
		}
	}
}

func TestLengthsInWords(t *testing.T) {
	for _, f := range families() {
		for _, op := range f.ops {
			for _, c := range []struct {
				m, n    int
				length  int
				problem string
			}{
				{1, 1, 1, ""}, {1, 40, 40, ""}, {40, 1, 40, ""}, {2, 4, 4, ""}, {4, 2, 4, ""}, {3, 39, 39, ""}, {40, 20, 40, ""}, {40, 40, 40, ""},
				{0, 0, 0, ""}, {0, 1, 0, ""}, {1, 0, 0, ""}, {0, 40, 0, ""}, {7, 0, 0, ""},
				{2, 3, 0, unmatchedLengths}, {3, 2, 0, unmatchedLengths}, {4, 6, 0, unmatchedLengths}, {6, 4, 0, unmatchedLengths}, {40, 39, 0, unmatchedLengths},
				{21, 40, 0, unmatchedLengths}, {40, 3, 0, unmatchedLengths}, {3, 40, 0, unmatchedLengths}, {10, 15, 0, unmatchedLengths},
			} {
				v, problem := f.call(op, numbersUpTo(c.m), numbersUpTo(c.n))
				if problem != c.problem || len(v.Items) != c.length {
					t.Errorf("%d %s %d elements: %d elements, %q", c.m, op, c.n, len(v.Items), problem)
				}
			}
		}
	}
}

// TestNamesOfResults is for one operator of each family: the names do not depend on the operator.
func TestNamesOfResults(t *testing.T) {
	two, four := named(numbers(1, 2), "a", ""), named(numbers(1, 2, 3, 4), "p", "", "q", "p")
	other := named(logicals(1, 0), "", "z")
	cases := []struct {
		a, b impl.Vector
		want []string
	}{
		{numbers(1, 2), numbers(1, 2), nil},
		{two, numbers(1, 2), two.Names},
		{numbers(1, 2), two, two.Names},
		{two, other, two.Names},
		{other, two, other.Names},
		{two, numbers(1), two.Names},
		{numbers(1), two, two.Names},
		{two, four, four.Names},
		{four, two, four.Names},
		{two, numbers(1, 2, 3, 4), nil},
		{numbers(1, 2, 3, 4), two, nil},
		{named(numbers(1), "one"), two, two.Names},
		{two, named(numbers(1), "one"), two.Names},
		{named(numbers(1), "one"), numbers(1), []string{"one"}},
		{named(numbers(1), "one"), numbers(1, 2), nil},
		{numbers(1, 2), named(numbers(1), "one"), nil},
		{two, numbers(), nil},
		{numbers(), two, nil},
		{impl.Vector{}, two, nil},
		{two, impl.Vector{}, nil},
		{classed(two, "c"), classed(other, "d"), two.Names},
	}
	for _, c := range cases {
		for _, f := range families() {
			for _, op := range f.ops {
				v, problem := f.call(op, c.a, c.b)
				if problem != "" || !slices.Equal(v.Names, c.want) {
					t.Errorf("%s %s %s: names %q, not %q (%s)", fieldsOf(c.a), op, fieldsOf(c.b), v.Names, c.want, problem)
				}
				if len(v.Class)+len(v.Levels) > 0 {
					t.Errorf("%s %s %s: class %q, levels %q", fieldsOf(c.a), op, fieldsOf(c.b), v.Class, v.Levels)
				}
			}
		}
	}
	// The names of a vector that is taken plain for its elements are those of the result all the same.
	v, problem := impl.CompareVectors("==", numbers(1, 2), named(factor(1, 2), "a", "b"))
	checkResult(t, "names of a factor", v, problem, named(logicals(0, 0), "a", "b"))
	v, problem = impl.CompareVectors("<", named(texts("a", "b"), "x", "y"), texts("b"))
	checkResult(t, "names of strings", v, problem, named(logicals(1, 0), "x", "y"))
}

func TestCompareVectorsInWords(t *testing.T) {
	null, none := impl.Vector{}, logicals()
	checkOperations(t, impl.CompareVectors, []operation{
		{"<", numbers(10), numbers(9), logicals(0)},
		{"<", numbers(10), texts("9"), logicals(1)},
		{"<", texts("10"), numbers(9), logicals(1)},
		{"<", texts("10"), texts("9"), logicals(1)},
		{"==", numbers(1, 2), numbers(1), logicals(1, 0)},
		{"!=", numbers(1, 2), numbers(1), logicals(0, 1)},
		{"<", numbers(1, 2, 3), numbers(2), logicals(1, 0, 0)},
		{"<=", numbers(1, 2, 3), numbers(2), logicals(1, 1, 0)},
		{">", numbers(1, 2, 3), numbers(2), logicals(0, 0, 1)},
		{">=", numbers(1, 2, 3), numbers(2), logicals(0, 1, 1)},
		{"==", texts("a", "b"), texts("a"), logicals(1, 0)},
		{"!=", texts("a", "b"), texts("a"), logicals(0, 1)},
		{"<", texts("a", "b", "c"), texts("b"), logicals(1, 0, 0)},
		{"<=", texts("a", "b", "c"), texts("b"), logicals(1, 1, 0)},
		{">", texts("a", "b", "c"), texts("b"), logicals(0, 0, 1)},
		{">=", texts("a", "b", "c"), texts("b"), logicals(0, 1, 1)},
		{"<", vectorOf(impl.KindNumber, ratio(1, 3)), vectorOf(impl.KindNumber, ratio(1, 2)), logicals(1)},
		{"<", vectorOf(impl.KindNumber, ratio(1, 3)), texts("1/2"), logicals(0)},
		{"==", vectorOf(impl.KindNumber, ratio(1, 2)), texts("1/2"), logicals(1)},
		{"<", numbers(-1), texts("-2"), logicals(1)},
		{"==", logicals(2, 1), numbers(1), logicals(2, 1)},
		{"==", logicals(1, 0), numbers(1, 0), logicals(1, 1)},
		{"<", logicals(0, 1), vectorOf(impl.KindNumber, ratio(1, 2)), logicals(1, 0)},
		{"<", logicals(0), logicals(1), logicals(1)},
		{"==", logicals(1, 0, 1), texts("TRUE", "FALSE", "1"), logicals(1, 1, 0)},
		{"<", logicals(1), texts("FALSE"), logicals(0)},
		{"<", texts(""), texts("\x00"), logicals(1)},
		{"<", texts("B", "a\xff", "a"), texts("a", "b", "a\x00"), logicals(1, 1, 1)},
		{"==", texts("", "NA"), missing(impl.KindText, 1), logicals(2, 2)},
		{"==", missing(impl.KindText, 1), missing(impl.KindText, 1), logicals(2)},
		{"!=", missing(impl.KindNumber, 1), missing(impl.KindLogical, 1), logicals(2)},
		{"<", vectorOf(impl.KindNumber, whole(1), missingItem(), whole(3)), numbers(2), logicals(1, 2, 0)},
		{"<", numbers(2), vectorOf(impl.KindText, word("1"), missingItem(), word("3")), logicals(0, 2, 1)},
		{"==", missing(impl.KindLogical, 1), texts("NA"), logicals(2)},
		{"==", null, null, none},
		{"==", null, numbers(1, 2), none},
		{"<", texts("a", "b", "c"), null, none},
		{"<", null, texts(), none},
		{"!=", texts(), numbers(1), none},
		{"==", logicals(), factor(1, 2), none},
	})
}

func TestComparingFactors(t *testing.T) {
	checkOperations(t, impl.CompareVectors, []operation{
		{"==", factor(1, 2, 3), texts("mid"), logicals(0, 1, 0)},
		{"==", texts("mid"), factor(1, 2, 3), logicals(0, 1, 0)},
		{"==", factor(1, 2, 3), numbers(1, 2, 3), logicals(0, 0, 0)},
		{"<", factor(1, 3), factor(2), logicals(1, 1)},
		{"<", factor(3), factor(1, 2, 3), logicals(1, 1, 0)},
		{">=", factor(1, 0), factor(3), logicals(1, 2)},
		{"==", factor(0), factor(0), logicals(2)},
		{"==", factor(1), levelled(numbers(3), "x", "y", "low"), logicals(1)},
		{"==", levelled(numbers(1, 2), "2", "1"), numbers(1), logicals(0, 1)},
		{"<", levelled(numbers(1), "10"), numbers(9), logicals(1)},
		{"==", levelled(numbers(1, 2), "TRUE", "1"), logicals(1), logicals(1, 0)},
		{"==", factor(), factor(1, 2), logicals()},
		{"<", factor(), impl.Vector{}, logicals()},
	})
}

func TestLogicOfInWords(t *testing.T) {
	null, none := impl.Vector{}, logicals()
	all, each := logicals(0, 0, 0, 1, 1, 1, 2, 2, 2), logicals(0, 1, 2)
	checkOperations(t, impl.LogicOf, []operation{
		{"&", all, each, logicals(0, 0, 0, 0, 1, 2, 0, 2, 2)},
		{"|", all, each, logicals(0, 1, 2, 1, 1, 1, 2, 1, 2)},
		{"&", each, all, logicals(0, 0, 0, 0, 1, 2, 0, 2, 2)},
		{"|", each, all, logicals(0, 1, 2, 1, 1, 1, 2, 1, 2)},
		{"&", logicals(2, 1), logicals(0), logicals(0, 0)},
		{"|", numbers(0, 3), logicals(2), logicals(2, 1)},
		{"&", numbers(0, 1, 2, -1, 999999999), numbers(5), logicals(0, 1, 1, 1, 1)},
		{"&", vectorOf(impl.KindNumber, ratio(1, 2), ratio(-1, 3), missingItem(), whole(0)), logicals(1), logicals(1, 1, 2, 0)},
		{"|", vectorOf(impl.KindNumber, ratio(1, 2), ratio(-1, 3), missingItem(), whole(0)), logicals(0), logicals(1, 1, 2, 0)},
		{"&", null, null, none},
		{"|", null, logicals(1, 0), none},
		{"&", numbers(1, 2, 3), null, none},
		{"|", numbers(), logicals(1), none},
		{"&", classed(logicals(1), "a"), classed(numbers(1), "b"), logicals(1)},
	})
}

// otherOperators returns strings that are none of the operators of f: those of the other functions, and texts that are almost operators.
func (f family) otherOperators() []string {
	list := []string{"", " ", "+ ", " +", "++", "+-", "%", "%%%", "%/", "/%", "%//%", "**", "=", "===", "=<", "=>", "<>", "!", "~", ":", "&&", "||", "&|", "add", "ArithmeticOf", "\x00", "+\x00", "\u2212", strings.Repeat("+", 1000)}
	for _, other := range families() {
		if other.name != f.name {
			list = append(list, other.ops...)
		}
	}
	return list
}

func TestUnknownOperators(t *testing.T) {
	for _, f := range families() {
		for _, op := range f.otherOperators() {
			for _, pair := range [][2]impl.Vector{
				{numbers(1), numbers(1)}, {{}, {}}, {numbers(1, 2), numbers(1, 2, 3)}, {texts("a"), numbers(1)}, {listOf(), numbers(1)}, {numbers(1), function(1, 1)},
			} {
				v, problem := f.call(op, pair[0], pair[1])
				checkProblem(t, f.name+" "+op, v, problem, unknownOperator)
			}
		}
	}
}

// TestProblemsInWords has each problem alone, and together with each that comes behind it.
func TestProblemsInWords(t *testing.T) {
	invalid := numbers(1000000000, 1)
	for _, f := range families() {
		op, list, three := f.ops[len(f.ops)-1], listOf(numbers(1), numbers(2)), numbers(1, 2, 3)
		cases := []struct {
			op   string
			a, b impl.Vector
			want string
		}{
			{op, invalid, numbers(1), invalidVector},
			{op, numbers(1), invalid, invalidVector},
			{op, invalid, invalid, invalidVector},
			{"?", invalid, numbers(1), invalidVector},
			{"?", numbers(1), invalid, invalidVector},
			{op, invalid, list, invalidVector},
			{op, list, invalid, invalidVector},
			{op, invalid, three, invalidVector},
			{op, three, invalid, invalidVector},
			{"?", invalid, list, invalidVector},
			{"?", numbers(1), numbers(1), unknownOperator},
			{"?", list, numbers(1), unknownOperator},
			{"?", numbers(1), list, unknownOperator},
			{"?", numbers(1, 2), three, unknownOperator},
			{"?", list, three, unknownOperator},
			{op, list, numbers(1), f.unsuited},
			{op, numbers(1), list, f.unsuited},
			{op, list, list, f.unsuited},
			{op, list, three, f.unsuited},
			{op, three, list, f.unsuited},
			{op, function(1, 1), three, f.unsuited},
			{op, numbers(), listOf(), f.unsuited},
			{op, listOf(), impl.Vector{}, f.unsuited},
			{op, numbers(1, 2), three, unmatchedLengths},
			{op, three, logicals(1, 0), unmatchedLengths},
		}
		for _, c := range cases {
			v, problem := f.call(c.op, c.a, c.b)
			checkProblem(t, f.name+" "+c.op+" "+fieldsOf(c.a)+fieldsOf(c.b), v, problem, c.want)
		}
	}
}

// TestOperandsThatDoNotSuit has strings and factors, which only comparisons take, and lists and functions, which none takes; each also with lengths that do not match.
func TestOperandsThatDoNotSuit(t *testing.T) {
	operands := []impl.Vector{
		texts("a"), texts("1", "2"), texts(), missing(impl.KindText, 2), factor(1, 2), factor(), factor(0), levelled(numbers(1), "1"),
		listOf(), listOf(numbers(1)), listOf(numbers(1), logicals(1)), function(0, 0), function(-999, 99999), classed(function(1, 1), "numeric"), classed(listOf(numbers(1)), "data.frame"),
	}
	for _, f := range families() {
		for _, a := range operands {
			for _, b := range append(operands, impl.Vector{}, numbers(1), numbers(), logicals(1), numbers(1, 2, 3)) {
				f.checkAll(t, fieldsOf(a)+" and "+fieldsOf(b), a, b)
				f.checkAll(t, fieldsOf(b)+" and "+fieldsOf(a), b, a)
			}
			for _, op := range f.ops {
				if _, problem := f.call(op, a, numbers(1)); !isAtomicByText(a) && problem != f.unsuited {
					t.Errorf("%s %s: %q", fieldsOf(a), op, problem)
				}
			}
		}
	}
}

func TestInvalidOperands(t *testing.T) {
	for _, f := range families() {
		for _, s := range invalidVectors() {
			for _, op := range append([]string{"?"}, f.ops...) {
				for _, other := range []impl.Vector{{}, numbers(1), numbers(1, 2, 3), texts("a"), listOf(), function(1, 1), s.vector} {
					v, problem := f.call(op, s.vector, other)
					checkProblem(t, s.name+" "+op, v, problem, invalidVector)
					v, problem = f.call(op, other, s.vector)
					checkProblem(t, op+" "+s.name, v, problem, invalidVector)
				}
			}
		}
	}
}

func TestOperatorsOfSamples(t *testing.T) {
	list := ordinaryVectors()
	for _, f := range families() {
		for _, a := range list {
			for _, b := range list {
				f.checkAll(t, a.name+" and "+b.name, a.vector, b.vector)
			}
		}
	}
}

// randomOperand returns an atomic vector of this length, with names, a class or levels now and then.
func randomOperand(source *rand.Rand, kind int, length int) impl.Vector {
	v := impl.Vector{Kind: kind}
	for range length {
		v.Items = append(v.Items, randomItem(source, kind))
	}
	if source.IntN(2) == 0 {
		v.Names = randomNames(source, length)
	}
	if source.IntN(3) == 0 {
		v.Class = []string{"c"}
	}
	if kind == impl.KindNumber && source.IntN(4) == 0 {
		v = withCodes(source, v)
	}
	return v
}

// randomOperands returns two operands, most of them with lengths of which one is a multiple of the other.
func randomOperands(source *rand.Rand) (impl.Vector, impl.Vector) {
	m := source.IntN(6)
	n := []int{m, 2 * m, 5 * m, 1, source.IntN(9)}[source.IntN(5)]
	a, b := randomOperand(source, source.IntN(3)+1, m), randomOperand(source, source.IntN(3)+1, n)
	if source.IntN(2) == 0 {
		return b, a
	}
	return a, b
}

func TestOperatorsOfRandomVectors(t *testing.T) {
	source := rand.New(rand.NewPCG(5, 1))
	for range 10000 {
		a, b := randomOperands(source)
		for _, f := range families() {
			f.checkAll(t, "random vectors", a, b)
		}
	}
	for range 3000 {
		a, b := randomVector(source, source.IntN(6), 6, 2), randomVector(source, source.IntN(6), 6, 2)
		for _, f := range families() {
			f.checkAll(t, "random vectors", a, b)
		}
	}
}

// TestRecyclingIsRepeating compares with operands that are repeated up to the length of the result.
func TestRecyclingIsRepeating(t *testing.T) {
	source := rand.New(rand.NewPCG(5, 2))
	for range 3000 {
		a, b := randomOperands(source)
		m, n := len(a.Items), len(b.Items)
		if m == 0 || n == 0 || max(m, n)%min(m, n) != 0 {
			continue
		}
		repeatedA, _ := impl.RepeatVector(a, max(m, n)/m)
		repeatedB, _ := impl.RepeatVector(b, max(m, n)/n)
		for _, f := range families() {
			for _, op := range f.ops {
				got, problem := f.call(op, a, b)
				want, problemOfWant := f.call(op, repeatedA, repeatedB)
				got.Names, want.Names = nil, nil
				if problem != problemOfWant {
					t.Errorf("%s %s: %q and %q", f.name, op, problem, problemOfWant)
				}
				checkVector(t, f.name+" "+op, got, want)
			}
		}
	}
}

// TestMissingStaysMissing is for arithmetic and comparisons: AndLogical and OrLogical may know a result without one operand.
func TestMissingStaysMissing(t *testing.T) {
	source := rand.New(rand.NewPCG(5, 3))
	seen := 0
	for range 5000 {
		a, b := randomOperands(source)
		for _, f := range families()[:2] {
			for _, op := range f.ops {
				v, _ := f.call(op, a, b)
				for i, x := range v.Items {
					if a.Items[i%len(a.Items)] != missingItem() && b.Items[i%len(b.Items)] != missingItem() {
						continue
					}
					seen++
					if x != missingItem() {
						t.Errorf("%s %s %s: element %d is %v", fieldsOf(a), op, fieldsOf(b), i, x)
					}
				}
			}
		}
	}
	if seen < 1000 {
		t.Errorf("only %d elements", seen)
	}
}

// operate returns the result of an operation on valid vectors that suit it.
func operate(t *testing.T, call func(op string, a impl.Vector, b impl.Vector) (impl.Vector, string), op string, a impl.Vector, b impl.Vector) impl.Vector {
	t.Helper()
	v, problem := call(op, a, b)
	if problem != "" {
		t.Errorf("%s: %q", op, problem)
	}
	return v
}

func not(t *testing.T, a impl.Vector) impl.Vector {
	t.Helper()
	v, problem := impl.NotVector(a)
	if problem != "" {
		t.Errorf("not: %q", problem)
	}
	return v
}

func TestOperatorsFitTogether(t *testing.T) {
	source := rand.New(rand.NewPCG(5, 4))
	for range 2000 {
		a, b := randomOperand(source, source.IntN(3)+1, 6), randomOperand(source, source.IntN(3)+1, 6)
		for op, opposite := range map[string]string{"==": "!=", "<": ">=", ">": "<="} {
			checkVector(t, "not "+op, not(t, operate(t, impl.CompareVectors, op, a, b)), operate(t, impl.CompareVectors, opposite, a, b))
		}
		a, b = logicals(0, 1, 2, 0, 1, 2), randomOperand(source, impl.KindLogical, 6)
		for op, opposite := range map[string]string{"&": "|", "|": "&"} {
			checkVector(t, "not "+op, not(t, operate(t, impl.LogicOf, op, a, b)), operate(t, impl.LogicOf, opposite, not(t, a), not(t, b)))
		}
		checkVector(t, "not not", not(t, not(t, b)), withoutClass(b))
	}
}

func withoutClass(v impl.Vector) impl.Vector {
	v.Class = nil
	return v
}

func TestNegateVector(t *testing.T) {
	factorOfOne := levelled(numbers(1), "1")
	for _, c := range []struct{ from, want impl.Vector }{
		{numbers(1, -2, 0), numbers(-1, 2, 0)},
		{vectorOf(impl.KindNumber, ratio(1, 2), missingItem(), whole(999999999)), vectorOf(impl.KindNumber, ratio(-1, 2), missingItem(), whole(-999999999))},
		{logicals(1, 0, 2), vectorOf(impl.KindNumber, whole(-1), whole(0), missingItem())},
		{logicals(1), numbers(-1)},
		{named(numbers(1), "a"), named(numbers(-1), "a")},
		{named(logicals(1, 0), "", "b"), named(numbers(-1, 0), "", "b")},
		{classed(named(numbers(4), "a"), "c"), named(numbers(-4), "a")},
		{impl.Vector{}, numbers()},
		{logicals(), numbers()},
		{numbers(), numbers()},
	} {
		v, problem := impl.NegateVector(c.from)
		checkResult(t, "negated "+fieldsOf(c.from), v, problem, c.want)
	}
	for _, v := range []impl.Vector{texts("1"), texts(), factorOfOne, factor(), listOf(), listOf(numbers(1)), function(1, 1)} {
		w, problem := impl.NegateVector(v)
		checkProblem(t, "negated "+fieldsOf(v), w, problem, nonNumeric)
	}
	for _, s := range ordinaryVectors() {
		v, problem := impl.NegateVector(s.vector)
		if !isNumericByText(s.vector) {
			checkProblem(t, s.name, v, problem, nonNumeric)
			continue
		}
		want := impl.Vector{Kind: impl.KindNumber, Names: s.vector.Names}
		for _, x := range s.vector.Items {
			if x == missingItem() {
				want.Items = append(want.Items, x)
			} else {
				want.Items = append(want.Items, itemOf(new(big.Rat).Neg(ratOf(x))))
			}
		}
		checkResult(t, s.name, v, problem, want)
	}
	for _, s := range invalidVectors() {
		v, problem := impl.NegateVector(s.vector)
		checkProblem(t, s.name, v, problem, invalidVector)
	}
}

func TestNotVector(t *testing.T) {
	for _, c := range []struct{ from, want impl.Vector }{
		{logicals(0, 1, 2), logicals(1, 0, 2)},
		{numbers(0, 5, -1, 1), logicals(1, 0, 0, 0)},
		{vectorOf(impl.KindNumber, ratio(1, 2), missingItem()), logicals(0, 2)},
		{named(numbers(0, 1), "a", ""), named(logicals(1, 0), "a", "")},
		{classed(named(logicals(1), "x"), "c", "d"), named(logicals(0), "x")},
		{impl.Vector{}, logicals()},
		{numbers(), logicals()},
		{logicals(), logicals()},
	} {
		v, problem := impl.NotVector(c.from)
		checkResult(t, "not "+fieldsOf(c.from), v, problem, c.want)
	}
	for _, s := range ordinaryVectors() {
		v, problem := impl.NotVector(s.vector)
		if !isNumericByText(s.vector) {
			checkProblem(t, s.name, v, problem, nonLogical)
			continue
		}
		want := impl.Vector{Kind: impl.KindLogical, Names: s.vector.Names}
		for _, x := range s.vector.Items {
			want.Items = append(want.Items, logicals([]int{1, 0, 2}[logicalOfItem(x)]).Items...)
		}
		checkResult(t, s.name, v, problem, want)
	}
	for _, v := range []impl.Vector{texts("TRUE"), texts(), factor(1), factor(), listOf(), listOf(logicals(1)), function(1, 1)} {
		w, problem := impl.NotVector(v)
		checkProblem(t, "not "+fieldsOf(v), w, problem, nonLogical)
	}
	for _, s := range invalidVectors() {
		v, problem := impl.NotVector(s.vector)
		checkProblem(t, s.name, v, problem, invalidVector)
	}
}

func missingByText(v impl.Vector) impl.Vector {
	w := impl.Vector{Kind: impl.KindLogical, Names: v.Names}
	if v.Kind == impl.KindFunction {
		return logicals(0)
	}
	for _, x := range v.Items {
		w.Items = append(w.Items, truth(x == missingItem()))
	}
	for _, part := range v.Parts {
		w.Items = append(w.Items, truth(slices.Equal(part.Items, []impl.Item{{}})))
	}
	return w
}

func TestMissingIn(t *testing.T) {
	one := missing(impl.KindText, 1)
	for _, c := range []struct{ from, want impl.Vector }{
		{impl.Vector{}, logicals()},
		{logicals(), logicals()},
		{listOf(), logicals()},
		{logicals(0, 1, 2), logicals(0, 0, 1)},
		{numbers(0, 1), logicals(0, 0)},
		{vectorOf(impl.KindNumber, missingItem(), whole(0)), logicals(1, 0)},
		{vectorOf(impl.KindText, word(""), word("NA"), missingItem()), logicals(0, 0, 1)},
		{named(one, "a"), named(logicals(1), "a")},
		{named(factor(0, 1), "", "b"), named(logicals(1, 0), "", "b")},
		{function(1, 1), logicals(0)},
		{classed(function(1, 1), "f"), logicals(0)},
		{listOf(logicals(2), missing(impl.KindNumber, 2), impl.Vector{}), logicals(1, 0, 0)},
		{listOf(one, texts("NA"), missing(impl.KindText, 0), listOf(one), function(1, 1), listOf()), logicals(1, 0, 0, 0, 0, 0)},
		{listOf(named(one, "in"), classed(one, "c"), factor(0), factor(1)), logicals(1, 1, 1, 0)},
		{classed(named(listOf(logicals(2), logicals(1)), "p", "q"), "data.frame"), named(logicals(1, 0), "p", "q")},
	} {
		v, problem := impl.MissingIn(c.from)
		checkResult(t, "missing in "+fieldsOf(c.from), v, problem, c.want)
	}
	for _, s := range ordinaryVectors() {
		v, problem := impl.MissingIn(s.vector)
		checkResult(t, s.name, v, problem, missingByText(s.vector))
	}
	for _, s := range invalidVectors() {
		v, problem := impl.MissingIn(s.vector)
		checkProblem(t, s.name, v, problem, invalidVector)
	}
	source := rand.New(rand.NewPCG(5, 5))
	for range 3000 {
		from := randomVector(source, source.IntN(6), 6, 3)
		v, problem := impl.MissingIn(from)
		checkResult(t, fieldsOf(from), v, problem, missingByText(from))
	}
}

func TestChooseVectorInWords(t *testing.T) {
	for _, c := range []struct{ test, yes, no, want impl.Vector }{
		{logicals(1, 0, 2), numbers(1, 2, 3), texts("z"), vectorOf(impl.KindText, word("1"), word("z"), missingItem())},
		{logicals(1, 0, 1, 0, 1), numbers(1, 2), numbers(10, 20, 30), numbers(1, 20, 1, 10, 1)},
		{logicals(1, 0), numbers(1, 2, 3, 4, 5), numbers(6, 7, 8), numbers(1, 7)},
		{logicals(1, 1), numbers(1), texts("z"), texts("1", "1")},
		{logicals(0, 0), texts("z"), vectorOf(impl.KindNumber, ratio(1, 2)), texts("1/2", "1/2")},
		{logicals(1, 0), logicals(1), numbers(7), numbers(1, 7)},
		{logicals(1, 0), logicals(1), texts("x"), texts("TRUE", "x")},
		{logicals(1, 0), logicals(0), logicals(1), logicals(0, 1)},
		{numbers(0, 3, -1), numbers(1), numbers(2), numbers(2, 1, 1)},
		{vectorOf(impl.KindNumber, ratio(1, 2), missingItem()), texts("a"), texts("b"), vectorOf(impl.KindText, word("a"), missingItem())},
		{logicals(2, 2), logicals(1), logicals(0), logicals(2, 2)},
		{logicals(1, 0), missing(impl.KindNumber, 1), numbers(4), vectorOf(impl.KindNumber, missingItem(), whole(4))},
		{logicals(1, 0), missing(impl.KindLogical, 1), texts("a"), vectorOf(impl.KindText, missingItem(), word("a"))},
		{logicals(1, 0, 1), factor(1, 2, 0), numbers(5), vectorOf(impl.KindText, word("low"), word("5"), missingItem())},
		{logicals(1, 0), factor(3), factor(2), texts("high", "mid")},
		{logicals(1, 0), logicals(1), factor(2), texts("TRUE", "mid")},
		{logicals(), numbers(1), numbers(2), numbers()},
		{logicals(), texts("a"), logicals(1), texts()},
		{impl.Vector{}, logicals(1), logicals(0), logicals()},
		{numbers(), factor(1), factor(2), texts()},
		{named(logicals(1, 0), "a", ""), named(numbers(1, 2), "p", "q"), numbers(3, 4), named(numbers(1, 4), "a", "")},
		{logicals(1, 0), named(numbers(1, 2), "p", "q"), named(numbers(3, 4), "r", "s"), numbers(1, 4)},
		{classed(named(logicals(1), "a"), "c"), classed(numbers(1), "d"), classed(numbers(2), "e"), named(numbers(1), "a")},
	} {
		v, problem := impl.ChooseVector(c.test, c.yes, c.no)
		checkResult(t, fieldsOf(c.test)+fieldsOf(c.yes)+fieldsOf(c.no), v, problem, c.want)
	}
}

func chooseByText(test impl.Vector, yes impl.Vector, no impl.Vector) (impl.Vector, string) {
	switch {
	case faultOf(test) != "" || faultOf(yes) != "" || faultOf(no) != "":
		return impl.Vector{}, invalidVector
	case !isNumericByText(test):
		return impl.Vector{}, nonLogical
	case !isAtomicByText(yes) || !isAtomicByText(no):
		return impl.Vector{}, notAtomic
	case len(yes.Items) == 0 || len(no.Items) == 0:
		return impl.Vector{}, lengthZero
	}
	v := impl.Vector{Kind: max(yes.Kind, no.Kind), Names: test.Names}
	if isTextByText(yes) || isTextByText(no) {
		v.Kind = impl.KindText
	}
	for i, x := range test.Items {
		from, y := yes, yes.Items[i%len(yes.Items)]
		if x == whole(0) {
			from, y = no, no.Items[i%len(no.Items)]
		}
		switch {
		case x == missingItem() || y == missingItem():
			y = missingItem()
		case v.Kind == impl.KindText:
			y = word(plainTextOf(from, y))
		}
		v.Items = append(v.Items, y)
	}
	return v, ""
}

func checkChosen(t *testing.T, test impl.Vector, yes impl.Vector, no impl.Vector) {
	t.Helper()
	name := fieldsOf(test) + fieldsOf(yes) + fieldsOf(no)
	want, problemOfWant := chooseByText(test, yes, no)
	v, problem := impl.ChooseVector(test, yes, no)
	if problemOfWant != "" {
		checkProblem(t, name, v, problem, problemOfWant)
		return
	}
	checkResult(t, name, v, problem, want)
	if !impl.IsVector(v) {
		t.Errorf("%s: no vector", name)
	}
}

func TestChooseVectorOfRandomVectors(t *testing.T) {
	source := rand.New(rand.NewPCG(5, 6))
	for range 10000 {
		checkChosen(t, randomOperand(source, source.IntN(2)+1, source.IntN(8)), randomOperand(source, source.IntN(3)+1, source.IntN(8)), randomOperand(source, source.IntN(3)+1, source.IntN(8)))
	}
	for _, s := range ordinaryVectors() {
		checkChosen(t, s.vector, numbers(1, 2), texts("a", "b", "c"))
		for _, other := range ordinaryVectors() {
			checkChosen(t, logicals(1, 0, 2, 0, 1), s.vector, other.vector)
		}
	}
	for m := 1; m <= 40; m++ {
		for n := 1; n <= 40; n++ {
			checkChosen(t, logicals(slices.Repeat([]int{1, 0, 0, 2, 1}, 8)...), numbersUpTo(m), numbersUpTo(n))
		}
	}
}

func TestChooseVectorProblems(t *testing.T) {
	list, closure, invalid := listOf(numbers(1)), function(1, 1), vectorOf(impl.KindLogical, whole(2))
	good, none := numbers(1), numbers()
	cases := []struct {
		test, yes, no impl.Vector
		want          string
	}{
		{invalid, good, good, invalidVector},
		{good, invalid, good, invalidVector},
		{good, good, invalid, invalidVector},
		{texts("a"), invalid, good, invalidVector},
		{list, good, invalid, invalidVector},
		{invalid, list, good, invalidVector},
		{good, list, invalid, invalidVector},
		{good, none, invalid, invalidVector},
		{good, invalid, none, invalidVector},
		{texts("a"), good, good, nonLogical},
		{texts(), good, good, nonLogical},
		{factor(1), good, good, nonLogical},
		{list, good, good, nonLogical},
		{closure, good, good, nonLogical},
		{texts("a"), list, good, nonLogical},
		{texts("a"), good, closure, nonLogical},
		{factor(), none, good, nonLogical},
		{listOf(), good, none, nonLogical},
		{good, list, good, notAtomic},
		{good, good, list, notAtomic},
		{good, closure, good, notAtomic},
		{good, good, closure, notAtomic},
		{good, list, none, notAtomic},
		{good, none, list, notAtomic},
		{good, listOf(), good, notAtomic},
		{none, good, listOf(), notAtomic},
		{good, none, good, lengthZero},
		{good, good, none, lengthZero},
		{good, none, none, lengthZero},
		{good, impl.Vector{}, good, lengthZero},
		{good, good, impl.Vector{}, lengthZero},
		{good, texts(), good, lengthZero},
		{good, good, factor(), lengthZero},
		{none, none, good, lengthZero},
		{impl.Vector{}, good, impl.Vector{}, lengthZero},
	}
	for _, c := range cases {
		v, problem := impl.ChooseVector(c.test, c.yes, c.no)
		checkProblem(t, fieldsOf(c.test)+fieldsOf(c.yes)+fieldsOf(c.no), v, problem, c.want)
	}
	operands := []impl.Vector{{}, good, none, logicals(1, 0), texts("a"), texts(), factor(1), factor(), list, listOf(), closure, invalid}
	for _, test := range operands {
		for _, yes := range operands {
			for _, no := range operands {
				checkChosen(t, test, yes, no)
			}
		}
	}
	for _, s := range invalidVectors() {
		for _, other := range []impl.Vector{good, none, texts("a"), list, closure} {
			for i := range 3 {
				three := []impl.Vector{other, other, other}
				three[i] = s.vector
				v, problem := impl.ChooseVector(three[0], three[1], three[2])
				checkProblem(t, s.name, v, problem, invalidVector)
			}
		}
	}
}

// TestArithmeticSharesNoMemory also checks that the functions change nothing, not even behind the end of a slice.
func TestArithmeticSharesNoMemory(t *testing.T) {
	list := append(ordinaryVectors(), sample{"a vector of one element", named(numbers(1), "a")}, sample{"a vector of four elements", classed(named(logicals(1, 0, 2, 1), "p", "", "q", ""), "c")})
	for _, s := range list {
		for _, other := range list {
			arguments := []impl.Vector{roomy(s.vector), roomy(other.vector)}
			before, regions := contentsOf(arguments), regionsOfList(arguments)
			var results []impl.Vector
			keep := func(v impl.Vector, _ string) { results = append(results, v) }
			a, b := arguments[0], arguments[1]
			for _, f := range families() {
				keep(f.call(f.ops[0], a, b))
				keep(f.call(f.ops[1], b, a))
			}
			keep(impl.NegateVector(a))
			keep(impl.NotVector(a))
			keep(impl.MissingIn(a))
			keep(impl.ChooseVector(a, b, a))
			keep(impl.ChooseVector(b, b, a))
			for _, v := range results {
				checkApart(t, s.name+" and "+other.name, regionsOf(v), regions)
			}
			if contentsOf(arguments) != before {
				t.Errorf("%s and %s: the arguments have changed", s.name, other.name)
			}
		}
	}
}
