package tests

import (
	"slices"
	"strings"
	"testing"

	"loop.example/s0011/impl"
)

func wantNodes(t *testing.T, text string, want ...impl.Node) {
	t.Helper()
	got, code := impl.ParseExpr(text)
	if code != 0 || !sameNodes(got, want) {
		t.Errorf("%q: code %d and %v, want 0 and %v", text, code, got, want)
	}
}

func wantExprCode(t *testing.T, text string, want int) {
	t.Helper()
	got, code := impl.ParseExpr(text)
	if code != want || len(got) != 0 {
		t.Errorf("%.200q: code %d and %d nodes, want %d and none", text, code, len(got), want)
	}
}

func wantPrinted(t *testing.T, want string, nodes ...impl.Node) {
	t.Helper()
	if got := impl.PrintExpr(nodes); got != want {
		t.Errorf("%v: printed as %.200q, want %.200q", nodes, got, want)
	}
}

// wantBothWays is promise 5 for one valid expression.
func wantBothWays(t *testing.T, e *tree) {
	t.Helper()
	nodes := e.postfix()
	text := e.text()
	wantPrinted(t, text, nodes...)
	wantNodes(t, text, nodes...)
}

func wantParsedAsPlain(t *testing.T, text string) int {
	t.Helper()
	want, wantCode := plainParseExpr(text)
	got, code := impl.ParseExpr(text)
	if code != wantCode || !sameNodes(got, want) {
		t.Errorf("%q: code %d and %v, want %d and %v", text, code, got, wantCode, want)
	}
	return code
}

func wantPrintedAsPlain(t *testing.T, nodes []impl.Node) bool {
	t.Helper()
	want := plainPrintExpr(nodes)
	if got := impl.PrintExpr(nodes); got != want {
		t.Errorf("%v: printed as %q, want %q", nodes, got, want)
	}
	return want != ""
}

// The signs between two operands, the signs before one, and the functions, as the document writes them.
var binarySigns = []struct {
	sign string
	op   int
}{{"or", 15}, {"and", 14}, {"=", 10}, {"<>", 11}, {"<", 12}, {"<=", 13}, {"+", 7}, {"-", 8}, {"&", 9}, {"*", 4}, {"/", 5}, {"%", 6}}

var calls = []struct {
	name  string
	op    int
	count int
}{{"if", 16, 3}, {"min", 17, 2}, {"max", 18, 2}, {"orelse", 19, 2}, {"has", 20, 2}, {"len", 21, 1}, {"num", 22, 1}, {"str", 23, 1}, {"isblank", 24, 1}, {"iserr", 25, 1}}

func TestExprEveryOperator(t *testing.T) {
	a, b, c := field("a"), field("b"), field("c")
	for _, s := range binarySigns {
		nodes := []impl.Node{a, b, operator(s.op)}
		wantNodes(t, "a "+s.sign+" b", nodes...)
		wantPrinted(t, "a "+s.sign+" b", nodes...)
	}
	wantNodes(t, "-a", a, operator(impl.OpNeg))
	wantPrinted(t, "-a", a, operator(impl.OpNeg))
	wantNodes(t, "not a", a, operator(impl.OpNot))
	wantPrinted(t, "not a", a, operator(impl.OpNot))
	for _, f := range calls {
		text := f.name + "(" + strings.Join([]string{"a", "b", "c"}[:f.count], ", ") + ")"
		nodes := append(slices.Clone([]impl.Node{a, b, c}[:f.count]), operator(f.op))
		wantNodes(t, text, nodes...)
		wantPrinted(t, text, nodes...)
	}
}

func TestExprEveryConstant(t *testing.T) {
	for text, v := range map[string]impl.Value{
		"blank": blank(), "true": yes(), "false": no(), "0": whole(0), "7": whole(7), "10": whole(10), "9223372036854775807": whole(largest),
		`""`: words(""), `" "`: words(" "), `"a"`: words("a"), `"\"`: words(`\`), `"a; b"`: words("a; b"), `"(("`: words("(("), `"is"`: words("is"), `"-1"`: words("-1"),
		`"` + long(1000) + `"`: words(long(1000)),
	} {
		wantNodes(t, text, constant(v))
		wantPrinted(t, text, constant(v))
	}
	wantNodes(t, "-1", constant(whole(1)), operator(impl.OpNeg))
	wantNodes(t, "-9223372036854775807 - 1", constant(whole(largest)), operator(impl.OpNeg), constant(whole(1)), operator(impl.OpSub))
}

func TestExprNames(t *testing.T) {
	for _, name := range []string{"a", "z", "a1", "a_", "a_b", "z9_", "labels", "i", "nots", "trues", "o", "abcdefghijklmnop", "a123456789012345"} {
		wantNodes(t, name, field(name))
		wantPrinted(t, name, field(name))
	}
	for _, f := range calls {
		wantNodes(t, f.name, field(f.name))
		wantNodes(t, f.name+" + "+f.name, field(f.name), field(f.name), operator(impl.OpAdd))
		wantPrinted(t, f.name, field(f.name))
	}
	wantNodes(t, "min(min, max)", field("min"), field("max"), operator(impl.OpMin))
	for _, word := range plainReserved {
		wantPrinted(t, "", field(word))
		if word != "true" && word != "false" && word != "blank" {
			wantExprCode(t, word, 3)
			wantExprCode(t, "a + "+word, 3)
		}
		wantExprCode(t, word+"(a", 3)
	}
}

func TestExprGrouping(t *testing.T) {
	a, b, c := field("a"), field("b"), field("c")
	neg, not, sub, mul := operator(impl.OpNeg), operator(impl.OpNot), operator(impl.OpSub), operator(impl.OpMul)
	wantNodes(t, "a - 2 * b", a, constant(whole(2)), b, mul, sub)
	wantNodes(t, "(a - 2) * b", a, constant(whole(2)), sub, b, mul)
	wantNodes(t, "a - b - c", a, b, sub, c, sub)
	wantNodes(t, "a - (b - c)", a, b, c, sub, sub)
	wantNodes(t, "a / b * c", a, b, operator(impl.OpDiv), c, mul)
	wantNodes(t, "a & b + c", a, b, operator(impl.OpCat), c, operator(impl.OpAdd))
	wantNodes(t, "a or b or c", a, b, operator(impl.OpOr), c, operator(impl.OpOr))
	wantNodes(t, "a and b and c", a, b, operator(impl.OpAnd), c, operator(impl.OpAnd))
	wantNodes(t, "a or b and c", a, b, c, operator(impl.OpAnd), operator(impl.OpOr))
	wantNodes(t, "a and b or c", a, b, operator(impl.OpAnd), c, operator(impl.OpOr))
	wantNodes(t, "a = b and c", a, b, operator(impl.OpEq), c, operator(impl.OpAnd))
	wantNodes(t, "a - b < c", a, b, sub, c, operator(impl.OpLt))
	wantNodes(t, "not a = b", a, not, b, operator(impl.OpEq))
	wantNodes(t, "not a and b", a, not, b, operator(impl.OpAnd))
	wantNodes(t, "-a * b", a, neg, b, mul)
	wantNodes(t, "a * -b", a, b, neg, mul)
	wantNodes(t, "a - -b", a, b, neg, sub)
	wantNodes(t, "a--b", a, b, neg, sub)
	wantNodes(t, "- - a", a, neg, neg)
	wantNodes(t, "not - not a", a, not, neg, not)
	wantNodes(t, "a - not b", a, b, not, sub)
	wantNodes(t, "((a))", a)
	wantNodes(t, "(a) = (b)", a, b, operator(impl.OpEq))
	wantNodes(t, "-(a - b)", a, b, sub, neg)
	wantNodes(t, "if(a or b, -c, (a))", a, b, operator(impl.OpOr), c, neg, a, operator(impl.OpIf))
}

func TestExprTokensNeedNoSpace(t *testing.T) {
	a, b := field("a"), field("b")
	wantNodes(t, "a<=b", a, b, operator(impl.OpLe))
	wantNodes(t, "a<>b", a, b, operator(impl.OpNe))
	wantNodes(t, "a<b", a, b, operator(impl.OpLt))
	wantNodes(t, "a<-b", a, b, operator(impl.OpNeg), operator(impl.OpLt))
	wantNodes(t, "a=-b", a, b, operator(impl.OpNeg), operator(impl.OpEq))
	wantNodes(t, "1or 2and 3", constant(whole(1)), constant(whole(2)), constant(whole(3)), operator(impl.OpAnd), operator(impl.OpOr))
	wantNodes(t, `"x"or"y"`, constant(words("x")), constant(words("y")), operator(impl.OpOr))
	wantNodes(t, "min(a,b)", a, b, operator(impl.OpMin))
	wantNodes(t, " \n a\n+\n\nb \n", a, b, operator(impl.OpAdd))
	wantNodes(t, "min\n (a\n,b )", a, b, operator(impl.OpMin))
	wantExprCode(t, "a < = b", 3)
	wantExprCode(t, "a <== b", 3)
	wantExprCode(t, "a <<= b", 3)
	wantExprCode(t, "a <>= b", 3)
	wantExprCode(t, "a < > b", 2)
	wantNodes(t, "aor", field("aor"))
	wantExprCode(t, "a orb", 3)
	wantExprCode(t, "1 2", 3)
	wantExprCode(t, `"a""b"`, 3)
}

func TestExprWrongTokens(t *testing.T) {
	for _, token := range []string{
		"abcdefghijklmnopq", "a1234567890123456", strings.Repeat("a", 100), "truetruetruetruet",
		"00", "01", "007", "0000000000000000000000", "09223372036854775807",
		"9223372036854775808", "9223372036854775810", "18446744073709551616", "99999999999999999999", "1" + strings.Repeat("0", 200),
		`"`, `"a`, `"a b c`, "\"a\n\"", "\"a\tb\"", "\"\x7f\"", "\"\x80\"", "\"é\"", "\"\x00\"",
		`"` + long(1001) + `"`, `"` + long(1001), `"` + long(2000) + `"`,
		"A", "Z", "_", "_a", ">", ">=", "!", "!1", "#", "$", "'", "'a'", ".", ":", "?", "@", "[", "]", "\\", "^", "`", "{", "|", "}", "~", "\t", "\r", "\x00", "\x1f", "\x7f", "\x80", "é", "\xff",
	} {
		for _, text := range []string{token, "a + " + token, token + " + a", "( " + token, ") " + token, "; " + token, "a " + token, "min(" + token + ")", token + " _"} {
			wantExprCode(t, text, 2)
		}
	}
	wantExprCode(t, "a > b", 2)
	wantExprCode(t, "aB", 2)
	wantExprCode(t, "1.5", 2)
	wantExprCode(t, "a => b", 2)
	wantExprCode(t, `a & "b`, 2)
	wantExprCode(t, `a & "b" & "`, 2)
}

func TestExprNotAnExpression(t *testing.T) {
	for _, text := range []string{
		"", " ", "\n", "()", "(", ")", ",", ";", "+", "-", "*", "=", "<", "<>", "<=", "&", "/", "%", "not", "and", "or",
		"a b", "1 a", "12ab", "a 1", "a +", "+ a", "a + + b", "a * * b", "a or", "or a", "a or or b", "a and", "and a", "a not", "a not b", "not", "- -", "not not",
		"a = b = c", "a < b < c", "a = b <> c", "a <= b = c", "(a = b = c)", "a = b and c = d = e", "= a", "a =",
		"(a", "a)", "((a)", "(a))", ")a(", "(a)(b)", "(1)(2)", "a(", "a()", "(a b)", "(a,b)", "a,b", ", a", "a;", ";a", "a;b", "(a;)",
		"min()", "foo(a)", "sum(1, 2)", "a(b)", "true(a)", "blank()", "1(a)", `"x"(a)`, "and(a, b)", "label(a)", "at", "auto", "is", "when", "a is b", "a + when",
		"min(a, b", "min a, b)", "min(a b)", "min(a,,b)", "min(,a)", "min(a,)", "min(a, b,)", "min (a) (b)", "(min)(a, b)", "if(a b c)", "-(", "not (", "a - ", "(-)", "min(-, a)",
	} {
		wantExprCode(t, text, 3)
	}
	for _, f := range calls {
		for count := range 5 {
			text := f.name + "(" + strings.TrimSuffix(strings.Repeat("a, ", count), ", ") + ")"
			if count != f.count {
				wantExprCode(t, text, 3)
				wantExprCode(t, "1 + "+text, 3)
			} else {
				wantParsedAsPlain(t, text)
			}
		}
	}
}

func TestExprOrderOfCodes(t *testing.T) {
	space := strings.Repeat(" ", 4000)
	wantExprCode(t, space+"a", 1)
	wantExprCode(t, space+"_", 1)
	wantExprCode(t, space+")", 1)
	wantExprCode(t, strings.Repeat("-", 4000)+"a", 1)
	wantExprCode(t, ") _", 2)
	wantExprCode(t, strings.Repeat("-", 100)+"a _", 2)
	wantExprCode(t, strings.Repeat("-", 100)+"a )", 3)
	wantExprCode(t, strings.Repeat("-", 100)+"a", 4)
	wantExprCode(t, "a"+strings.Repeat("+1", 1999)+")", 3)
	wantExprCode(t, "a"+strings.Repeat("+1", 1999), 4)
}

// chain joins count operands by one operator, grouped from the left or from the right.
func chain(op int, count int, fromLeft bool) *tree {
	e := leaf(field("a"))
	for range count - 1 {
		if fromLeft {
			e = branch(op, e, leaf(field("a")))
		} else {
			e = branch(op, leaf(field("a")), e)
		}
	}
	return e
}

func wrapped(op int, times int, e *tree) *tree {
	for range times {
		e = branch(op, e)
	}
	return e
}

// bushy has as many leaves as asked and no great depth.
func bushy(op int, leaves int) *tree {
	if leaves == 1 {
		return leaf(field("a"))
	}
	return branch(op, bushy(op, leaves/2), bushy(op, leaves-leaves/2))
}

func TestExprDepthAtItsLimit(t *testing.T) {
	for _, op := range []int{impl.OpNeg, impl.OpNot, impl.OpLen, impl.OpIsErr} {
		wantBothWays(t, wrapped(op, 63, leaf(field("a"))))
		wantExprCode(t, wrapped(op, 64, leaf(field("a"))).text(), 4)
		wantPrinted(t, "", wrapped(op, 64, leaf(field("a"))).postfix()...)
	}
	for _, op := range []int{impl.OpOr, impl.OpAnd, impl.OpEq, impl.OpSub, impl.OpMul, impl.OpMax} {
		for _, fromLeft := range []bool{true, false} {
			wantBothWays(t, chain(op, 64, fromLeft))
			wantExprCode(t, chain(op, 65, fromLeft).text(), 4)
			wantPrinted(t, "", chain(op, 65, fromLeft).postfix()...)
		}
	}
	deep := wrapped(impl.OpNeg, 62, leaf(field("a")))
	wantBothWays(t, branch(impl.OpIf, leaf(field("a")), deep, leaf(field("a"))))
	deep = branch(impl.OpNeg, deep)
	for i := range 3 {
		args := []*tree{leaf(field("a")), leaf(field("a")), leaf(field("a"))}
		args[i] = deep
		wantExprCode(t, branch(impl.OpIf, args...).text(), 4)
		wantPrinted(t, "", branch(impl.OpIf, args...).postfix()...)
	}
}

func TestExprNestAtItsLimit(t *testing.T) {
	open := func(n int) string { return strings.Repeat("(", n) }
	shut := func(n int) string { return strings.Repeat(")", n) }
	wantNodes(t, open(64)+"a"+shut(64), field("a"))
	wantExprCode(t, open(65)+"a"+shut(65), 3)
	wantExprCode(t, open(1000)+"a"+shut(1000), 3)
	wantExprCode(t, open(4000), 3)
	wantExprCode(t, "-"+open(65)+"a"+shut(65), 3)
	wantNodes(t, open(63)+"len(a)"+shut(63), field("a"), operator(impl.OpLen))
	wantExprCode(t, open(64)+"len(a)"+shut(64), 3)
	wantExprCode(t, open(64)+"len((a))"+shut(64), 3)
	wantExprCode(t, "len("+open(64)+"a"+shut(64)+")", 3)
	// a tree that is too deep, and the same with one bracket more, which is no expression any longer
	wantExprCode(t, strings.Repeat("len(", 64)+"a"+shut(64), 4)
	wantExprCode(t, strings.Repeat("len(", 65)+"a"+shut(65), 3)
	wantExprCode(t, strings.Repeat("-(", 64)+"a"+shut(64), 4)
	wantExprCode(t, strings.Repeat("-(", 65)+"a"+shut(65), 3)
	// what has been closed does not count
	wide := chain(impl.OpAdd, 60, true)
	wantNodes(t, "((a))"+strings.Repeat("+((a))", 59), wide.postfix()...)
	half := open(64) + "a" + shut(64)
	wantNodes(t, half+"+"+half+"*"+half, field("a"), field("a"), field("a"), operator(impl.OpMul), operator(impl.OpAdd))
	wantExprCode(t, half+"+("+half+")", 3)
	wantExprCode(t, "min("+half+", a)", 3)
}

func TestExprNodesAtTheirLimit(t *testing.T) {
	wantBothWays(t, bushy(impl.OpAdd, 500))
	full := branch(impl.OpNeg, bushy(impl.OpAdd, 500))
	if len(full.postfix()) != impl.MaxNodes {
		t.Fatalf("%d nodes", len(full.postfix()))
	}
	wantBothWays(t, full)
	for _, over := range []*tree{branch(impl.OpNeg, full), bushy(impl.OpAdd, 501), bushy(impl.OpMul, 600)} {
		wantExprCode(t, over.text(), 4)
		wantPrinted(t, "", over.postfix()...)
	}
	wantPrinted(t, "", slices.Repeat([]impl.Node{field("a")}, 100000)...)
}

// texted has four texts between signs, and its printed text has the given size.
func texted(size int) *tree {
	e := leaf(constant(words(long(1000))))
	for range 2 {
		e = branch(impl.OpCat, e, leaf(constant(words(long(1000)))))
	}
	return branch(impl.OpCat, e, leaf(constant(words(long(size-len(e.text())-5)))))
}

func TestExprTextAtItsLimit(t *testing.T) {
	spaces := strings.Repeat(" ", 3999)
	wantNodes(t, spaces+"a", field("a"))
	wantNodes(t, "a"+spaces, field("a"))
	wantExprCode(t, " "+spaces+"a", 1)
	wantExprCode(t, "a "+spaces, 1)
	wantExprCode(t, strings.Repeat("_", 100000), 1)
	wantBothWays(t, texted(4000))
	wantExprCode(t, texted(4001).text(), 1)
	for _, over := range []int{4001, 4002, 4006} {
		// without its spaces the text fits, but what is printed does not
		wantExprCode(t, strings.ReplaceAll(texted(over).text(), " ", ""), 4)
		wantPrinted(t, "", texted(over).postfix()...)
	}
}

func TestExprPrintedLongerThanRead(t *testing.T) {
	// every sign gains two spaces, so names between signs outgrow the limit as well as texts do
	e := bushy(impl.OpAdd, 380)
	text := strings.ReplaceAll(e.text(), "a", "abcdefgh")
	tight := strings.ReplaceAll(text, " ", "")
	if len(tight) > impl.MaxExprText || len(text) <= impl.MaxExprText || len(e.postfix()) > impl.MaxNodes || e.depth() > impl.MaxDepth {
		t.Fatalf("%d bytes, printed %d, %d nodes, depth %d", len(tight), len(text), len(e.postfix()), e.depth())
	}
	wantExprCode(t, tight, 4)
	wantExprCode(t, text, 1)
	nodes := e.postfix()
	for i := range nodes {
		if nodes[i].Op == impl.OpField {
			nodes[i].Name = "abcdefgh"
		}
	}
	wantPrinted(t, "", nodes...)
}

// leaves gives operands for an operator: names, so that no two of them are alike.
func leaves(op int) []*tree {
	return []*tree{leaf(field("a")), leaf(field("b")), leaf(field("c"))}[:operandCounts[op]]
}

// bracketPairs gives the places of the brackets that are no function's: those after no name, and those after the word not.
func bracketPairs(text string) [][2]int {
	pairs := [][2]int{}
	open := []int{}
	for i := range len(text) {
		switch text[i] {
		case '(':
			open = append(open, i)
		case ')':
			at := open[len(open)-1]
			open = open[:len(open)-1]
			if at == 0 || text[at-1] < 'a' || text[at-1] > 'z' {
				pairs = append(pairs, [2]int{at, i})
			}
		}
	}
	return pairs
}

// wantNoSpareBrackets is the second half of promise 5; it is asked only where no text constant has brackets.
func wantNoSpareBrackets(t *testing.T, nodes []impl.Node) int {
	t.Helper()
	text := impl.PrintExpr(nodes)
	pairs := bracketPairs(text)
	for _, p := range pairs {
		less := text[:p[0]] + text[p[0]+1:p[1]] + text[p[1]+1:]
		if got, code := impl.ParseExpr(less); code == 0 && sameNodes(got, nodes) {
			t.Errorf("%q could be written as %q", text, less)
		}
	}
	return len(pairs)
}

func TestExprEveryOperatorInEveryOther(t *testing.T) {
	pairs := 0
	for outer := impl.OpNeg; outer <= impl.OpIsErr; outer++ {
		for place := range operandCounts[outer] {
			for inner := impl.OpNeg; inner <= impl.OpIsErr; inner++ {
				args := leaves(outer)
				args[place] = branch(inner, leaves(inner)...)
				e := branch(outer, args...)
				wantBothWays(t, e)
				pairs += wantNoSpareBrackets(t, e.postfix())
			}
		}
	}
	if pairs < 100 {
		t.Errorf("only %d pairs of brackets were tried", pairs)
	}
}

// One sign of each level on either side of each, with the brackets written out by hand.
func TestExprBracketsWrittenOut(t *testing.T) {
	left := map[int]string{ // by the outer sign: the inner signs that take brackets to its left
		impl.OpOr: "", impl.OpAnd: "or", impl.OpEq: "or and = <", impl.OpLt: "or and = <", impl.OpAdd: "or and = <", impl.OpSub: "or and = <", impl.OpMul: "or and = < + -",
	}
	right := map[int]string{
		impl.OpOr: "or", impl.OpAnd: "or and", impl.OpEq: "or and = <", impl.OpLt: "or and = <", impl.OpAdd: "or and = < + -", impl.OpSub: "or and = < + -", impl.OpMul: "or and = < + - * /",
	}
	signs := map[string]int{"or": impl.OpOr, "and": impl.OpAnd, "=": impl.OpEq, "<": impl.OpLt, "+": impl.OpAdd, "-": impl.OpSub, "*": impl.OpMul, "/": impl.OpDiv}
	a, b, c := field("a"), field("b"), field("c")
	for outer, sign := range map[int]string{impl.OpOr: "or", impl.OpAnd: "and", impl.OpEq: "=", impl.OpLt: "<", impl.OpAdd: "+", impl.OpSub: "-", impl.OpMul: "*"} {
		for word, inner := range signs {
			first := inBrackets("a "+word+" b", slices.Contains(strings.Fields(left[outer]), word))
			wantPrinted(t, first+" "+sign+" c", a, b, operator(inner), c, operator(outer))
			second := inBrackets("b "+word+" c", slices.Contains(strings.Fields(right[outer]), word))
			wantPrinted(t, "a "+sign+" "+second, a, b, c, operator(inner), operator(outer))
		}
	}
	for word, inner := range signs {
		wantPrinted(t, "-(a "+word+" b)", a, b, operator(inner), operator(impl.OpNeg))
		wantPrinted(t, "not (a "+word+" b)", a, b, operator(inner), operator(impl.OpNot))
		wantPrinted(t, "len(a "+word+" b)", a, b, operator(inner), operator(impl.OpLen))
		wantPrinted(t, "-a "+word+" not b", a, operator(impl.OpNeg), b, operator(impl.OpNot), operator(inner))
		wantPrinted(t, "len(a) "+word+" min(b, c)", a, operator(impl.OpLen), b, c, operator(impl.OpMin), operator(inner))
	}
	wantPrinted(t, "--a", a, operator(impl.OpNeg), operator(impl.OpNeg))
	wantPrinted(t, "-not a", a, operator(impl.OpNot), operator(impl.OpNeg))
	wantPrinted(t, "not -a", a, operator(impl.OpNeg), operator(impl.OpNot))
	wantPrinted(t, "not not a", a, operator(impl.OpNot), operator(impl.OpNot))
	wantPrinted(t, "-len(a)", a, operator(impl.OpLen), operator(impl.OpNeg))
	wantPrinted(t, "if(a or b, c, a = b)", a, b, operator(impl.OpOr), c, a, b, operator(impl.OpEq), operator(impl.OpIf))
}

// treesOf gives every tree of as many operators, the operators taken from ops.
func treesOf(ops []int, count int) []*tree {
	if count == 0 {
		return []*tree{leaf(field("a"))}
	}
	out := []*tree{}
	for _, op := range ops {
		if operandCounts[op] == 1 {
			for _, e := range treesOf(ops, count-1) {
				out = append(out, branch(op, e))
			}
			continue
		}
		for left := range count {
			for _, l := range treesOf(ops, left) {
				for _, r := range treesOf(ops, count-1-left) {
					out = append(out, branch(op, l, r))
				}
			}
		}
	}
	return out
}

func TestExprEveryTreeOfThreeOperators(t *testing.T) {
	ops := []int{impl.OpOr, impl.OpAnd, impl.OpEq, impl.OpSub, impl.OpMul, impl.OpNeg, impl.OpNot, impl.OpMin, impl.OpLen}
	for count := range 4 {
		for _, e := range treesOf(ops, count) {
			wantBothWays(t, e)
			wantNoSpareBrackets(t, e.postfix())
		}
	}
}

var someNames = strings.Fields("a b c x y z min max if len num a_1 z9_ abcdefghijklmnop low high clerk boss orelse has str isblank iserr hidden")

func mixedLeaf(m *mixer, names []string) *tree {
	switch m.below(8) {
	case 0:
		return leaf(constant([]impl.Value{blank(), yes(), no()}[m.below(3)]))
	case 1:
		return leaf(constant(whole([]int64{0, 1, 2, 10, 255, largest}[m.below(6)])))
	case 2:
		text := strings.NewReplacer("(", "[", ")", "]").Replace(mixedText(m, m.below(6)))
		return leaf(constant(words(text)))
	}
	return leaf(field(names[m.below(len(names))]))
}

func mixedTree(m *mixer, names []string, operators int) *tree {
	if operators == 0 {
		return mixedLeaf(m, names)
	}
	op := impl.OpNeg + m.below(impl.OpIsErr-impl.OpNeg+1)
	left := operators - 1
	args := []*tree{}
	for i := range operandCounts[op] {
		share := left
		if i < operandCounts[op]-1 {
			share = m.below(left + 1)
		}
		left -= share
		args = append(args, mixedTree(m, names, share))
	}
	return branch(op, args...)
}

// looseText writes an expression with brackets and spaces that it does not need; an operand below the least level needs its brackets.
func looseText(m *mixer, e *tree, least int) string {
	text := e.text()
	word, level := plainWord(e.node.Op)
	gap := strings.Repeat(" ", m.below(2)) + strings.Repeat("\n", m.below(2))
	switch {
	case len(e.args) == 0:
		level = 7
	case level == 7:
		texts := []string{}
		for _, a := range e.args {
			texts = append(texts, gap+looseText(m, a, 1)+gap)
		}
		text = word + gap + "(" + strings.Join(texts, ",") + ")"
	case level == 6:
		text = word + gap + looseText(m, e.args[0], 6)
	case level == 3:
		text = looseText(m, e.args[0], 4) + gap + word + gap + looseText(m, e.args[1], 4)
	case level < 3:
		text = looseText(m, e.args[0], level) + "\n" + word + " " + gap + looseText(m, e.args[1], level+1)
	default:
		text = looseText(m, e.args[0], level) + gap + word + gap + looseText(m, e.args[1], level+1)
	}
	return inBrackets(text, level < least || m.below(4) == 0)
}

func TestExprMixedTrees(t *testing.T) {
	m := mixer(3)
	for range 3000 {
		e := mixedTree(&m, someNames, m.below(30))
		if e.depth() > impl.MaxDepth {
			t.Fatalf("depth %d", e.depth())
		}
		wantBothWays(t, e)
		wantNoSpareBrackets(t, e.postfix())
	}
}

func TestExprSpareBracketsLeaveNoNode(t *testing.T) {
	m := mixer(4)
	for range 3000 {
		e := mixedTree(&m, someNames, m.below(12))
		wantNodes(t, looseText(&m, e, 1), e.postfix()...)
	}
}

// Every short row of tokens, held against the grammar.
func TestExprEveryShortRowOfTokens(t *testing.T) {
	seen := [5]int{}
	rows := []string{""}
	for range 5 {
		longer := []string{}
		for _, row := range rows {
			for _, token := range strings.Fields("a 1 - + = or not ( ) min ,") {
				longer = append(longer, row+token+" ")
			}
		}
		for _, row := range longer {
			seen[wantParsedAsPlain(t, row)]++
		}
		rows = longer
	}
	if seen[0] < 1000 || seen[3] < 10000 {
		t.Errorf("codes seen: %v", seen)
	}
}

func TestExprMixedRowsOfTokens(t *testing.T) {
	tokens := append(strings.Fields(`a b 1 0 "x" true blank - - + & * / % = <> < <= and or not not ( ( ) ) , ( ) min ( max ( len ( if ( ; is at 01 _`), `" "`)
	m := mixer(5)
	seen := [5]int{}
	for range 30000 {
		row := ""
		for range m.below(9) {
			row += tokens[m.below(len(tokens))] + " "
		}
		seen[wantParsedAsPlain(t, row)]++
	}
	if seen[0] < 300 || seen[2] < 300 || seen[3] < 300 {
		t.Errorf("codes seen: %v", seen)
	}
}

// A printed expression with one byte or one token changed, taken out or put in.
func TestExprNearTexts(t *testing.T) {
	m := mixer(6)
	bytes := " \n()+-*/%&=<>,;\"0123abz_orAX!\x00\x7f\x80"
	seen := [5]int{}
	for range 20000 {
		text := mixedTree(&m, someNames, m.below(5)).text()
		at := m.below(len(text))
		b := string(bytes[m.below(len(bytes))])
		switch m.below(3) {
		case 0:
			text = text[:at] + b + text[at:]
		case 1:
			text = text[:at] + b + text[at+1:]
		case 2:
			text = text[:at] + text[at+1:]
		}
		seen[wantParsedAsPlain(t, text)]++
	}
	if seen[0] < 1000 || seen[2] < 1000 || seen[3] < 1000 {
		t.Errorf("codes seen: %v", seen)
	}
}

func TestExprEveryByte(t *testing.T) {
	for b := range 256 {
		s := string([]byte{byte(b)})
		for _, text := range []string{s, "a" + s, s + "a", "a" + s + "b", "1" + s, "1" + s + "2", `"` + s + `"`, `"a` + s, "<" + s + "a", "a<" + s + "a", "a " + s + " b", s + s} {
			wantParsedAsPlain(t, text)
		}
	}
}

func TestExprWrongNodes(t *testing.T) {
	one := constant(whole(1))
	for _, nodes := range [][]impl.Node{
		nil, {},
		{operator(impl.OpNeg)}, {operator(impl.OpAdd)}, {operator(impl.OpIf)}, {one, operator(impl.OpAdd)}, {one, one, operator(impl.OpIf)}, {one, one}, {one, one, one, operator(impl.OpAdd)},
		{one, operator(impl.OpNeg), one}, {one, operator(impl.OpAdd), one}, {operator(impl.OpNeg), one}, {operator(impl.OpAdd), one, one}, {one, one, operator(impl.OpNeg)},
		{operator(26)}, {one, operator(26)}, {one, one, operator(26)}, {one, operator(-1)}, {operator(-1)}, {operator(1 << 32)}, {one, operator(1<<32 + 2)},
		{constant(whole(-1))}, {constant(whole(smallest))}, {constant(fault(1))}, {constant(fault(5))}, {constant(fault(0))},
		{{Op: impl.OpConst, Name: "a"}}, {{Op: impl.OpConst, Name: "a", Val: whole(1)}}, {{Op: impl.OpConst, Name: " "}},
		{field("")}, {field("A")}, {field("1")}, {field("_a")}, {field("a b")}, {field(" a")}, {field("a ")}, {field("a\n")}, {field("a-b")}, {field("é")}, {field("a(b)")}, {field(`"a"`)},
		{field("abcdefghijklmnopq")}, {field(strings.Repeat("a", 10000))}, {field("aB")}, {field("a\x00")},
		{{Op: impl.OpField, Name: "a", Val: whole(0)}}, {{Op: impl.OpField, Name: "a", Val: impl.Value{Num: 1}}}, {{Op: impl.OpField, Name: "a", Val: impl.Value{Text: "a"}}},
		{one, {Op: impl.OpNeg, Name: "a"}}, {one, {Op: impl.OpNeg, Name: "-"}}, {one, {Op: impl.OpNeg, Val: whole(1)}}, {one, {Op: impl.OpNeg, Val: impl.Value{Num: 1}}},
		{one, {Op: impl.OpNeg, Val: impl.Value{Text: "-"}}}, {one, one, {Op: impl.OpMin, Name: "min"}},
	} {
		wantPrinted(t, "", nodes...)
		wantPrintedAsPlain(t, nodes)
		// one wrong node is enough, wherever it stands
		wantPrintedAsPlain(t, append([]impl.Node{one}, append(slices.Clone(nodes), operator(impl.OpAdd))...))
		wantPrintedAsPlain(t, append(slices.Clone(nodes), one, operator(impl.OpAdd)))
	}
	for _, v := range wrongValues() {
		wantPrinted(t, "", constant(v))
		wantPrinted(t, "", one, constant(v), operator(impl.OpAdd))
		wantPrinted(t, "", impl.Node{Op: impl.OpField, Name: "a", Val: v})
		wantPrinted(t, "", one, impl.Node{Op: impl.OpNeg, Val: v})
	}
	for _, v := range someValues() {
		wantPrintedAsPlain(t, []impl.Node{constant(v)})
	}
}

// Lists of mixed nodes, and lists of a good expression with one node changed.
func TestExprNearNodes(t *testing.T) {
	m := mixer(7)
	good, bad := 0, 0
	count := func(nodes []impl.Node) {
		if wantPrintedAsPlain(t, nodes) {
			good++
		} else {
			bad++
		}
	}
	for range 20000 {
		nodes := []impl.Node{}
		for range m.below(6) {
			nodes = append(nodes, impl.Node{Op: m.below(28) - 1, Name: []string{"", "", "", "a", "is"}[m.below(5)]})
		}
		count(nodes)
		nodes = mixedTree(&m, someNames, m.below(6)).postfix()
		nodes[m.below(len(nodes))].Op = m.below(28) - 1
		count(nodes)
		nodes = mixedTree(&m, someNames, m.below(6)).postfix()
		at := m.below(len(nodes))
		count(slices.Delete(nodes, at, at+1))
	}
	if good < 1000 || bad < 1000 {
		t.Errorf("%d valid lists, %d others", good, bad)
	}
}

func TestExprAnswerIsNew(t *testing.T) {
	text := "min(a, 1) + b"
	first, _ := impl.ParseExpr(text)
	want := slices.Clone(first)
	first[0] = field("z")
	second, _ := impl.ParseExpr(text)
	if !sameNodes(second, want) {
		t.Errorf("the second answer is %v", second)
	}
	impl.PrintExpr(second)
	if !sameNodes(second, want) {
		t.Errorf("printing made %v of it", second)
	}
}
