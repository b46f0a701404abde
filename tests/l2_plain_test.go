package tests

import (
	"math"
	"math/big"
	"regexp"
	"strconv"
	"strings"

	"loop.example/s0011/impl"
)

// The tests of chapter 2 hold the program against the document's own words, written out here with great integers and patterns.

func blank() impl.Value         { return impl.Value{} }
func whole(n int64) impl.Value  { return impl.Value{Kind: impl.KInt, Num: n} }
func yes() impl.Value           { return impl.Value{Kind: impl.KBool, Num: 1} }
func no() impl.Value            { return impl.Value{Kind: impl.KBool} }
func words(s string) impl.Value { return impl.Value{Kind: impl.KText, Text: s} }
func fault(n int64) impl.Value  { return impl.Value{Kind: impl.KErr, Num: n} }

func long(n int) string { return strings.Repeat("q", n) }

func truth(b bool) impl.Value {
	if b {
		return yes()
	}
	return no()
}

var textPattern = regexp.MustCompile(`^[ !#-~]{0,1000}$`)
var wholePattern = regexp.MustCompile(`^(0|-?[1-9][0-9]*)$`)
var quotedPattern = regexp.MustCompile(`^"[ !#-~]{0,1000}"$`)

func plainValid(v impl.Value) bool {
	if v.Kind == impl.KText {
		return v.Num == 0 && textPattern.MatchString(v.Text)
	}
	if v.Text != "" {
		return false
	}
	return v.Kind == impl.KBlank && v.Num == 0 || v.Kind == impl.KInt || v.Kind == impl.KBool && v.Num >= 0 && v.Num <= 1 ||
		v.Kind == impl.KErr && v.Num >= 1 && v.Num <= 5
}

// plainWhole reads a plain decimal of any size, and then asks whether it is an int64.
func plainWhole(s string) (impl.Value, bool) {
	if !wholePattern.MatchString(s) {
		return blank(), false
	}
	n, _ := new(big.Int).SetString(s, 10)
	if !n.IsInt64() {
		return blank(), false
	}
	return whole(n.Int64()), true
}

func plainShow(v impl.Value) string {
	switch {
	case !plainValid(v):
		return "?"
	case v.Kind == impl.KInt:
		return big.NewInt(v.Num).String()
	case v.Kind == impl.KText:
		return `"` + v.Text + `"`
	case v.Kind == impl.KErr:
		return "!" + strconv.Itoa(int(v.Num))
	}
	return map[impl.Value]string{blank(): "blank", yes(): "true", no(): "false"}[v]
}

func plainRead(s string) (impl.Value, bool) {
	if v, ok := map[string]impl.Value{"blank": blank(), "true": yes(), "false": no()}[s]; ok {
		return v, true
	}
	if quotedPattern.MatchString(s) {
		return words(strings.Trim(s, `"`)), true
	}
	return plainWhole(s)
}

// operandCounts has the numbers of arguments by operator, 0 for what is no operator.
var operandCounts = [26]int{0, 0, 1, 1, 2, 2, 2, 2, 2, 2, 2, 2, 2, 2, 2, 2, 3, 2, 2, 2, 2, 1, 1, 1, 1, 1}

func isOp(op int) bool {
	return op >= impl.OpNeg && op <= impl.OpIsErr
}

// plainApply is the list of rules, one after the other.
func plainApply(op int, args []impl.Value) impl.Value {
	if !isOp(op) || len(args) != operandCounts[op] {
		return fault(impl.ErrType)
	}
	for _, v := range args {
		if !plainValid(v) {
			return fault(impl.ErrType)
		}
	}
	switch op {
	case impl.OpIsErr:
		return truth(args[0].Kind == impl.KErr)
	case impl.OpIf:
		return plainIf(args[0], args[1], args[2])
	case impl.OpElse:
		if args[0] != blank() {
			return args[0]
		}
		return args[1]
	}
	for _, v := range args {
		if v.Kind == impl.KErr {
			return v
		}
	}
	switch op {
	case impl.OpIsBlank:
		return truth(args[0] == blank())
	case impl.OpAnd:
		return plainAnd(args[0], args[1])
	case impl.OpOr:
		return plainNot(plainAnd(plainNot(args[0]), plainNot(args[1])))
	}
	for _, v := range args {
		if v == blank() {
			return v
		}
	}
	if len(args) == 1 {
		return plainOne(op, args[0])
	}
	return plainTwo(op, args[0], args[1])
}

func plainIf(a impl.Value, b impl.Value, c impl.Value) impl.Value {
	switch a.Kind {
	case impl.KErr, impl.KBlank:
		return a
	case impl.KInt, impl.KText:
		return fault(impl.ErrType)
	}
	if a.Num == 1 {
		return b
	}
	return c
}

func plainNot(v impl.Value) impl.Value {
	switch v {
	case yes():
		return no()
	case no():
		return yes()
	}
	return v
}

func plainAnd(a impl.Value, b impl.Value) impl.Value {
	for _, v := range []impl.Value{a, b} {
		if v.Kind == impl.KInt || v.Kind == impl.KText {
			return fault(impl.ErrType)
		}
	}
	switch {
	case a == no() || b == no():
		return no()
	case a == blank() || b == blank():
		return blank()
	}
	return yes()
}

func plainOne(op int, v impl.Value) impl.Value {
	asked := map[int]string{impl.OpNeg: "1", impl.OpNot: "2", impl.OpLen: "3", impl.OpNum: "3", impl.OpStr: "123"}[op]
	if !strings.Contains(asked, strconv.Itoa(v.Kind)) {
		return fault(impl.ErrType)
	}
	switch op {
	case impl.OpNeg:
		return plainFit(new(big.Int).Neg(big.NewInt(v.Num)))
	case impl.OpNot:
		return plainNot(v)
	case impl.OpLen:
		return whole(int64(len(v.Text)))
	case impl.OpNum:
		if n, ok := plainWhole(v.Text); ok {
			return n
		}
		return fault(impl.ErrNumber)
	}
	return words(strings.Trim(plainShow(v), `"`))
}

func plainFit(n *big.Int) impl.Value {
	if n.IsInt64() {
		return whole(n.Int64())
	}
	return fault(impl.ErrOverflow)
}

func plainTwo(op int, a impl.Value, b impl.Value) impl.Value {
	if a.Kind != b.Kind {
		return fault(impl.ErrType)
	}
	switch op {
	case impl.OpEq:
		return truth(plainShow(a) == plainShow(b))
	case impl.OpNe:
		return truth(plainShow(a) != plainShow(b))
	}
	switch a.Kind {
	case impl.KInt:
		return plainTwoWhole(op, big.NewInt(a.Num), big.NewInt(b.Num))
	case impl.KText:
		return plainTwoTexts(op, a.Text, b.Text)
	}
	return fault(impl.ErrType)
}

func plainTwoWhole(op int, a *big.Int, b *big.Int) impl.Value {
	switch op {
	case impl.OpMul:
		return plainFit(new(big.Int).Mul(a, b))
	case impl.OpAdd:
		return plainFit(new(big.Int).Add(a, b))
	case impl.OpSub:
		return plainFit(new(big.Int).Sub(a, b))
	case impl.OpLt:
		return truth(a.Cmp(b) < 0)
	case impl.OpLe:
		return truth(a.Cmp(b) <= 0)
	case impl.OpDiv, impl.OpMod:
		return plainDivide(op, a, b)
	case impl.OpMin, impl.OpMax:
		if (a.Cmp(b) < 0) == (op == impl.OpMin) {
			return plainFit(a)
		}
		return plainFit(b)
	}
	return fault(impl.ErrType)
}

func plainDivide(op int, a *big.Int, b *big.Int) impl.Value {
	if b.Sign() == 0 {
		return fault(impl.ErrDivide)
	}
	quotient := new(big.Int).Quo(a, b)
	if op == impl.OpDiv {
		return plainFit(quotient)
	}
	return plainFit(new(big.Int).Sub(a, new(big.Int).Mul(b, quotient)))
}

func plainTwoTexts(op int, a string, b string) impl.Value {
	switch op {
	case impl.OpCat:
		if len(a)+len(b) > 1000 {
			return fault(impl.ErrLong)
		}
		return words(a + b)
	case impl.OpLt:
		return truth(plainLess(a, b))
	case impl.OpLe:
		return truth(!plainLess(b, a))
	case impl.OpHas:
		for i := 0; i+len(b) <= len(a); i++ {
			if a[i:i+len(b)] == b {
				return yes()
			}
		}
		return no()
	}
	return fault(impl.ErrType)
}

func plainLess(a string, b string) bool {
	for i := 0; i < len(a) && i < len(b); i++ {
		if a[i] != b[i] {
			return a[i] < b[i]
		}
	}
	return len(a) < len(b)
}

const smallest = math.MinInt64
const largest = math.MaxInt64

// edgeNumbers stand where products, sums and quotients just fit or just do not.
func edgeNumbers() []int64 {
	return []int64{0, 1, -1, 2, -2, 3, 7, -7, 10, smallest, smallest + 1, largest, largest - 1, smallest / 2, largest / 2, largest/2 + 1,
		3037000499, 3037000500, -3037000500, 1 << 31, -1 << 31, 1 << 32, -1 << 32}
}

func edgeTexts() []string {
	return []string{"", "a", "ab", "abc", "b", "ba", "B", " ", "~", "!", "#", `\`, `\n`, "-", "0", "-0", "00", "007", "-7", "12", "+1", " 1", "1 ", "1_0", "0x1",
		"-9223372036854775808", "-9223372036854775809", "9223372036854775807", "9223372036854775808", "true", "false", "blank", "!1", "?",
		long(1), long(400), long(600), long(601), long(999), long(1000)}
}

// someValues has values of every kind, the edges among them; all are valid.
func someValues() []impl.Value {
	vs := []impl.Value{blank(), yes(), no(), fault(1), fault(2), fault(3), fault(4), fault(5)}
	for _, n := range edgeNumbers() {
		vs = append(vs, whole(n))
	}
	for _, s := range edgeTexts() {
		vs = append(vs, words(s))
	}
	return vs
}

// wrongValues breaks each clause of ValidValue.
func wrongValues() []impl.Value {
	vs := []impl.Value{
		{Kind: impl.KBlank, Num: 1}, {Kind: impl.KBlank, Num: -1}, {Kind: impl.KBlank, Text: "a"}, {Kind: impl.KBlank, Text: " "},
		{Kind: impl.KInt, Text: "a"}, {Kind: impl.KInt, Num: 1, Text: "1"},
		{Kind: impl.KBool, Num: 2}, {Kind: impl.KBool, Num: -1}, {Kind: impl.KBool, Num: largest}, {Kind: impl.KBool, Num: smallest},
		{Kind: impl.KBool, Text: "a"}, {Kind: impl.KBool, Num: 1, Text: "true"},
		{Kind: impl.KText, Num: 1}, {Kind: impl.KText, Num: 1, Text: "a"}, {Kind: impl.KText, Num: -1, Text: "a"},
		words(long(1001)), words(long(100000)), words(`a"b`), words(`"`), words("a\nb"), words("\x1f"), words("\x7f"), words("\x00"), words("\t"), words("a\r"),
		words("\x80"), words("é"), words("\xff"), words(long(999) + "\n"),
		fault(0), fault(6), fault(-1), fault(largest), fault(smallest), {Kind: impl.KErr, Num: 1, Text: "a"}, {Kind: impl.KErr, Text: "a"},
		{Kind: 5}, {Kind: -1}, {Kind: 5, Num: 1}, {Kind: 7, Text: "a"}, {Kind: math.MaxInt}, {Kind: math.MinInt}, {Kind: 1 << 32}, {Kind: 1<<32 + 1},
	}
	return vs
}
