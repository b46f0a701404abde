package tests

import (
	"math"
	"slices"
	"testing"

	"loop.example/s0011/impl"
)

func wantApply(t *testing.T, op int, want impl.Value, args ...impl.Value) {
	t.Helper()
	given := slices.Clone(args)
	got := impl.Apply(op, args)
	if got != want {
		t.Errorf("operator %d of %v is %v, want %v", op, given, got, want)
	}
	if !impl.ValidValue(got) {
		t.Errorf("operator %d of %v gives %v, which is no valid value", op, given, got)
	}
	if !slices.Equal(args, given) {
		t.Errorf("operator %d changed its arguments %v to %v", op, given, args)
	}
}

func mixedNumber(m *mixer) int64 {
	n := int64(m.below(1<<31))<<33 ^ int64(m.below(1<<31))<<12 ^ int64(m.below(1<<31))
	return n >> m.below(64)
}

func TestApplyOrdinary(t *testing.T) {
	wantApply(t, impl.OpNeg, whole(-5), whole(5))
	wantApply(t, impl.OpNeg, whole(5), whole(-5))
	wantApply(t, impl.OpNeg, whole(0), whole(0))
	wantApply(t, impl.OpNot, no(), yes())
	wantApply(t, impl.OpNot, yes(), no())
	wantApply(t, impl.OpMul, whole(-42), whole(6), whole(-7))
	wantApply(t, impl.OpAdd, whole(-1), whole(6), whole(-7))
	wantApply(t, impl.OpSub, whole(13), whole(6), whole(-7))
	wantApply(t, impl.OpDiv, whole(3), whole(17), whole(5))
	wantApply(t, impl.OpMod, whole(2), whole(17), whole(5))
	wantApply(t, impl.OpCat, words("ab"), words("a"), words("b"))
	wantApply(t, impl.OpEq, yes(), whole(4), whole(4))
	wantApply(t, impl.OpEq, no(), whole(4), whole(5))
	wantApply(t, impl.OpNe, yes(), words("a"), words("b"))
	wantApply(t, impl.OpNe, no(), no(), no())
	wantApply(t, impl.OpLt, yes(), whole(-4), whole(3))
	wantApply(t, impl.OpLt, no(), whole(3), whole(3))
	wantApply(t, impl.OpLe, yes(), whole(3), whole(3))
	wantApply(t, impl.OpLe, no(), whole(4), whole(3))
	wantApply(t, impl.OpAnd, yes(), yes(), yes())
	wantApply(t, impl.OpAnd, no(), yes(), no())
	wantApply(t, impl.OpOr, yes(), no(), yes())
	wantApply(t, impl.OpOr, no(), no(), no())
	wantApply(t, impl.OpIf, whole(1), yes(), whole(1), whole(2))
	wantApply(t, impl.OpIf, whole(2), no(), whole(1), whole(2))
	wantApply(t, impl.OpMin, whole(-3), whole(-3), whole(2))
	wantApply(t, impl.OpMin, whole(-3), whole(2), whole(-3))
	wantApply(t, impl.OpMax, whole(2), whole(-3), whole(2))
	wantApply(t, impl.OpMax, whole(2), whole(2), whole(-3))
	wantApply(t, impl.OpElse, whole(1), whole(1), whole(2))
	wantApply(t, impl.OpElse, whole(2), blank(), whole(2))
	wantApply(t, impl.OpHas, yes(), words("form"), words("or"))
	wantApply(t, impl.OpHas, no(), words("form"), words("fm"))
	wantApply(t, impl.OpLen, whole(4), words("form"))
	wantApply(t, impl.OpNum, whole(-31), words("-31"))
	wantApply(t, impl.OpStr, words("-31"), whole(-31))
	wantApply(t, impl.OpStr, words("true"), yes())
	wantApply(t, impl.OpStr, words("false"), no())
	wantApply(t, impl.OpStr, words("form"), words("form"))
	wantApply(t, impl.OpIsBlank, yes(), blank())
	wantApply(t, impl.OpIsBlank, no(), words(""))
	wantApply(t, impl.OpIsErr, yes(), fault(1))
	wantApply(t, impl.OpIsErr, no(), whole(1))
}

func TestApplySmallestAndLargest(t *testing.T) {
	wantApply(t, impl.OpNeg, fault(impl.ErrOverflow), whole(smallest))
	wantApply(t, impl.OpNeg, whole(smallest+1), whole(largest))
	wantApply(t, impl.OpNeg, whole(largest), whole(smallest+1))
	wantApply(t, impl.OpMul, fault(impl.ErrOverflow), whole(smallest), whole(-1))
	wantApply(t, impl.OpMul, fault(impl.ErrOverflow), whole(-1), whole(smallest))
	wantApply(t, impl.OpMul, whole(smallest), whole(smallest), whole(1))
	wantApply(t, impl.OpMul, whole(smallest), whole(smallest/2), whole(2))
	wantApply(t, impl.OpMul, whole(smallest), whole(2), whole(smallest/2))
	wantApply(t, impl.OpMul, fault(impl.ErrOverflow), whole(smallest/2), whole(-2))
	wantApply(t, impl.OpMul, fault(impl.ErrOverflow), whole(smallest), whole(smallest))
	wantApply(t, impl.OpMul, fault(impl.ErrOverflow), whole(largest), whole(largest))
	wantApply(t, impl.OpMul, whole(smallest+1), whole(largest), whole(-1))
	wantApply(t, impl.OpMul, whole(0), whole(smallest), whole(0))
	wantApply(t, impl.OpMul, fault(impl.ErrOverflow), whole(1<<32), whole(1<<32))
	wantApply(t, impl.OpAdd, fault(impl.ErrOverflow), whole(largest), whole(1))
	wantApply(t, impl.OpAdd, whole(largest), whole(largest), whole(0))
	wantApply(t, impl.OpAdd, fault(impl.ErrOverflow), whole(smallest), whole(-1))
	wantApply(t, impl.OpAdd, fault(impl.ErrOverflow), whole(smallest), whole(smallest))
	wantApply(t, impl.OpAdd, whole(-1), whole(smallest), whole(largest))
	wantApply(t, impl.OpSub, fault(impl.ErrOverflow), whole(0), whole(smallest))
	wantApply(t, impl.OpSub, whole(largest), whole(-1), whole(smallest))
	wantApply(t, impl.OpSub, whole(0), whole(smallest), whole(smallest))
	wantApply(t, impl.OpSub, fault(impl.ErrOverflow), whole(smallest), whole(1))
	wantApply(t, impl.OpSub, fault(impl.ErrOverflow), whole(largest), whole(-1))
	wantApply(t, impl.OpSub, whole(smallest+1), whole(0), whole(largest))
	wantApply(t, impl.OpMin, whole(smallest), whole(largest), whole(smallest))
	wantApply(t, impl.OpMax, whole(largest), whole(largest), whole(smallest))
	wantApply(t, impl.OpLt, yes(), whole(smallest), whole(largest))
	wantApply(t, impl.OpLe, no(), whole(largest), whole(smallest))
	wantApply(t, impl.OpEq, no(), whole(largest), whole(smallest))
	wantApply(t, impl.OpNe, yes(), whole(largest), whole(smallest))
	wantApply(t, impl.OpStr, words("-9223372036854775808"), whole(smallest))
	wantApply(t, impl.OpStr, words("9223372036854775807"), whole(largest))
	wantApply(t, impl.OpNum, whole(smallest), words("-9223372036854775808"))
	wantApply(t, impl.OpNum, whole(largest), words("9223372036854775807"))
}

func TestApplyQuotientsAndRemainders(t *testing.T) {
	for _, c := range [][4]int64{{7, -2, -3, 1}, {-7, 2, -3, -1}, {7, 2, 3, 1}, {-7, -2, 3, -1}, {6, -2, -3, 0}, {1, 2, 0, 1}, {-1, 2, 0, -1}, {0, -5, 0, 0},
		{smallest, 1, smallest, 0}, {smallest, 2, smallest / 2, 0}, {smallest, smallest, 1, 0}, {largest, smallest, 0, largest}, {smallest, largest, -1, -1}, {largest, -1, -largest, 0}, {5, smallest, 0, 5}} {
		wantApply(t, impl.OpDiv, whole(c[2]), whole(c[0]), whole(c[1]))
		wantApply(t, impl.OpMod, whole(c[3]), whole(c[0]), whole(c[1]))
	}
	wantApply(t, impl.OpDiv, fault(impl.ErrOverflow), whole(smallest), whole(-1))
	wantApply(t, impl.OpMod, whole(0), whole(smallest), whole(-1))
	for _, n := range edgeNumbers() {
		wantApply(t, impl.OpDiv, fault(impl.ErrDivide), whole(n), whole(0))
		wantApply(t, impl.OpMod, fault(impl.ErrDivide), whole(n), whole(0))
	}
}

func TestApplyTexts(t *testing.T) {
	wantApply(t, impl.OpCat, words(long(1000)), words(long(400)), words(long(600)))
	wantApply(t, impl.OpCat, fault(impl.ErrLong), words(long(400)), words(long(601)))
	wantApply(t, impl.OpCat, words(long(1000)), words(long(1000)), words(""))
	wantApply(t, impl.OpCat, words(long(1000)), words(""), words(long(1000)))
	wantApply(t, impl.OpCat, fault(impl.ErrLong), words(long(1000)), words("a"))
	wantApply(t, impl.OpCat, fault(impl.ErrLong), words(long(1000)), words(long(1000)))
	wantApply(t, impl.OpCat, words(""), words(""), words(""))
	wantApply(t, impl.OpHas, yes(), words(""), words(""))
	wantApply(t, impl.OpHas, yes(), words("abc"), words(""))
	wantApply(t, impl.OpHas, no(), words(""), words("a"))
	wantApply(t, impl.OpHas, yes(), words("abc"), words("abc"))
	wantApply(t, impl.OpHas, no(), words("bc"), words("abc"))
	wantApply(t, impl.OpHas, no(), words("abc"), words("B"))
	wantApply(t, impl.OpLt, yes(), words("ab"), words("abc"))
	wantApply(t, impl.OpLt, no(), words("abc"), words("ab"))
	wantApply(t, impl.OpLt, yes(), words(""), words(" "))
	wantApply(t, impl.OpLt, no(), words("b"), words("abc"))
	wantApply(t, impl.OpLt, yes(), words("Z"), words("a"))
	wantApply(t, impl.OpLt, yes(), words("10"), words("9"))
	wantApply(t, impl.OpLt, no(), words("a"), words("a"))
	wantApply(t, impl.OpLe, yes(), words("a"), words("a"))
	wantApply(t, impl.OpLe, yes(), words("ab"), words("abc"))
	wantApply(t, impl.OpLe, no(), words("abc"), words("ab"))
	wantApply(t, impl.OpEq, no(), words("a"), words("a "))
	wantApply(t, impl.OpLen, whole(0), words(""))
	wantApply(t, impl.OpLen, whole(1000), words(long(1000)))
	for _, s := range []string{"", " ", "-", "+1", "-0", "00", "01", "-01", " 1", "1 ", "1_0", "0x1", "1.0", "1e2", "9223372036854775808", "-9223372036854775809", "true", long(1000)} {
		wantApply(t, impl.OpNum, fault(impl.ErrNumber), words(s))
	}
	wantApply(t, impl.OpNum, whole(0), words("0"))
}

func TestApplyErrorsBeforeBlanks(t *testing.T) {
	for op := impl.OpNeg; op <= impl.OpIsErr; op++ {
		if operandCounts[op] != 2 || op == impl.OpElse {
			continue
		}
		wantApply(t, op, fault(4), blank(), fault(4))
		wantApply(t, op, fault(4), fault(4), blank())
		wantApply(t, op, fault(3), fault(3), fault(5))
		wantApply(t, op, fault(5), fault(5), fault(3))
		for _, v := range []impl.Value{whole(0), yes(), no(), words("a")} {
			wantApply(t, op, fault(2), v, fault(2))
			wantApply(t, op, fault(2), fault(2), v)
		}
	}
	for _, op := range []int{impl.OpNeg, impl.OpNot, impl.OpLen, impl.OpNum, impl.OpStr, impl.OpIsBlank} {
		for n := int64(1); n <= 5; n++ {
			wantApply(t, op, fault(n), fault(n))
		}
	}
}

func TestApplyBlanksBeforeKinds(t *testing.T) {
	for op := impl.OpMul; op <= impl.OpHas; op++ {
		if op == impl.OpAnd || op == impl.OpOr || op == impl.OpIf || op == impl.OpElse {
			continue
		}
		for _, v := range []impl.Value{blank(), whole(0), whole(smallest), yes(), no(), words(""), words("a")} {
			wantApply(t, op, blank(), v, blank())
			wantApply(t, op, blank(), blank(), v)
		}
	}
	for _, op := range []int{impl.OpNeg, impl.OpNot, impl.OpLen, impl.OpNum, impl.OpStr} {
		wantApply(t, op, blank(), blank())
	}
}

func TestApplyIf(t *testing.T) {
	for _, v := range someValues() {
		wantApply(t, impl.OpIf, v, yes(), v, fault(2))
		wantApply(t, impl.OpIf, v, no(), fault(2), v)
		wantApply(t, impl.OpIf, blank(), blank(), v, fault(2))
		wantApply(t, impl.OpIf, blank(), blank(), fault(2), v)
		wantApply(t, impl.OpIf, fault(3), fault(3), v, fault(2))
		wantApply(t, impl.OpIf, fault(impl.ErrType), whole(1), v, fault(2))
		wantApply(t, impl.OpIf, fault(impl.ErrType), whole(0), fault(2), v)
		wantApply(t, impl.OpIf, fault(impl.ErrType), words("true"), v, fault(2))
	}
}

func TestApplyElse(t *testing.T) {
	for _, v := range someValues() {
		wantApply(t, impl.OpElse, v, blank(), v)
		if v != blank() {
			wantApply(t, impl.OpElse, v, v, whole(9))
			wantApply(t, impl.OpElse, v, v, fault(2))
			wantApply(t, impl.OpElse, v, v, blank())
		}
	}
}

func TestApplyIsErrAndIsBlank(t *testing.T) {
	for _, v := range someValues() {
		if v.Kind == impl.KErr {
			wantApply(t, impl.OpIsErr, yes(), v)
			wantApply(t, impl.OpIsBlank, v, v)
		} else {
			wantApply(t, impl.OpIsErr, no(), v)
			wantApply(t, impl.OpIsBlank, truth(v.Kind == impl.KBlank), v)
		}
	}
}

func TestApplyAndOr(t *testing.T) {
	for _, c := range []struct{ a, b, and, or impl.Value }{
		{no(), no(), no(), no()}, {no(), yes(), no(), yes()}, {yes(), no(), no(), yes()}, {yes(), yes(), yes(), yes()},
		{no(), blank(), no(), blank()}, {blank(), no(), no(), blank()},
		{yes(), blank(), blank(), yes()}, {blank(), yes(), blank(), yes()}, {blank(), blank(), blank(), blank()},
	} {
		wantApply(t, impl.OpAnd, c.and, c.a, c.b)
		wantApply(t, impl.OpOr, c.or, c.a, c.b)
	}
	for _, op := range []int{impl.OpAnd, impl.OpOr} {
		for _, wrong := range []impl.Value{whole(0), whole(1), words(""), words("true")} {
			for _, v := range []impl.Value{yes(), no(), blank(), whole(1), words("a")} {
				wantApply(t, op, fault(impl.ErrType), wrong, v)
				wantApply(t, op, fault(impl.ErrType), v, wrong)
			}
			wantApply(t, op, fault(5), wrong, fault(5))
			wantApply(t, op, fault(5), fault(5), wrong)
		}
	}
}

func TestApplyWrongKinds(t *testing.T) {
	kinds := []impl.Value{whole(1), yes(), words("1")}
	takes := map[int][]int{impl.OpNeg: {1}, impl.OpNot: {2}, impl.OpLen: {3}, impl.OpNum: {3}}
	for op, taken := range takes {
		for _, v := range kinds {
			if !slices.Contains(taken, v.Kind) {
				wantApply(t, op, fault(impl.ErrType), v)
			}
		}
	}
	pairs := map[int][]int{impl.OpMul: {1}, impl.OpDiv: {1}, impl.OpMod: {1}, impl.OpAdd: {1}, impl.OpSub: {1}, impl.OpMin: {1}, impl.OpMax: {1},
		impl.OpCat: {3}, impl.OpHas: {3}, impl.OpLt: {1, 3}, impl.OpLe: {1, 3}, impl.OpEq: {1, 2, 3}, impl.OpNe: {1, 2, 3}}
	for op, taken := range pairs {
		for _, a := range kinds {
			for _, b := range kinds {
				if a.Kind != b.Kind || !slices.Contains(taken, a.Kind) {
					wantApply(t, op, fault(impl.ErrType), a, b)
				}
			}
		}
	}
	// kinds are asked for ahead of what the operator looks at
	wantApply(t, impl.OpDiv, fault(impl.ErrType), words("a"), whole(0))
	wantApply(t, impl.OpCat, fault(impl.ErrType), words(long(1000)), whole(1))
	wantApply(t, impl.OpEq, fault(impl.ErrType), yes(), whole(1))
}

func TestApplyNoOperator(t *testing.T) {
	for _, op := range []int{impl.OpConst, impl.OpField, -1, -2, 26, 27, 100, math.MaxInt, math.MinInt, 1 << 32, 1<<32 + impl.OpNeg} {
		for count := range 5 {
			for _, v := range []impl.Value{whole(1), yes(), blank(), fault(3), words("a")} {
				wantApply(t, op, fault(impl.ErrType), slices.Repeat([]impl.Value{v}, count)...)
			}
		}
	}
}

func TestApplyWrongCounts(t *testing.T) {
	for op := impl.OpNeg; op <= impl.OpIsErr; op++ {
		wantApply(t, op, fault(impl.ErrType))
		for count := range 6 {
			if count == operandCounts[op] {
				continue
			}
			for _, v := range []impl.Value{whole(1), yes(), blank(), fault(3), words("a")} {
				wantApply(t, op, fault(impl.ErrType), slices.Repeat([]impl.Value{v}, count)...)
			}
		}
	}
}

func TestApplyWrongArguments(t *testing.T) {
	for op := impl.OpNeg; op <= impl.OpIsErr; op++ {
		for _, wrong := range wrongValues() {
			for _, v := range []impl.Value{whole(1), yes(), no(), blank(), fault(3), words("a")} {
				for at := range operandCounts[op] {
					args := slices.Repeat([]impl.Value{v}, operandCounts[op])
					args[at] = wrong
					wantApply(t, op, fault(impl.ErrType), args...)
				}
			}
		}
	}
}

// Promise 3, over all pairs and triples of the edges.
func TestApplyEveryEdge(t *testing.T) {
	vs := someValues()
	for op := impl.OpNeg; op <= impl.OpIsErr; op++ {
		for _, a := range vs {
			if operandCounts[op] == 1 {
				wantApply(t, op, plainApply(op, []impl.Value{a}), a)
				continue
			}
			for _, b := range vs {
				if operandCounts[op] == 2 {
					wantApply(t, op, plainApply(op, []impl.Value{a, b}), a, b)
					continue
				}
				for i := 0; i < len(vs); i += 3 {
					wantApply(t, op, plainApply(op, []impl.Value{a, b, vs[i]}), a, b, vs[i])
				}
			}
		}
	}
}

// Promise 3, for whole numbers of all sizes.
func TestApplyMixedNumbers(t *testing.T) {
	m := mixer(4)
	ops := []int{impl.OpMul, impl.OpDiv, impl.OpMod, impl.OpAdd, impl.OpSub, impl.OpEq, impl.OpNe, impl.OpLt, impl.OpLe, impl.OpMin, impl.OpMax}
	fits, fails := 0, 0
	for range 20000 {
		a, b := whole(mixedNumber(&m)), whole(mixedNumber(&m))
		for _, op := range ops {
			want := plainApply(op, []impl.Value{a, b})
			wantApply(t, op, want, a, b)
			if want == fault(impl.ErrOverflow) {
				fails++
			} else {
				fits++
			}
		}
		wantApply(t, impl.OpNeg, plainApply(impl.OpNeg, []impl.Value{a}), a)
		wantApply(t, impl.OpNum, a, impl.Apply(impl.OpStr, []impl.Value{a}))
	}
	if fits < 1000 || fails < 1000 {
		t.Errorf("the mixed numbers are lopsided: %d fit, %d do not", fits, fails)
	}
}

func TestApplyMixedTexts(t *testing.T) {
	m := mixer(5)
	for range 3000 {
		a, b := words(mixedText(&m, m.below(4))), words(mixedText(&m, m.below(3)))
		for _, op := range []int{impl.OpCat, impl.OpEq, impl.OpNe, impl.OpLt, impl.OpLe, impl.OpHas} {
			wantApply(t, op, plainApply(op, []impl.Value{a, b}), a, b)
			wantApply(t, op, plainApply(op, []impl.Value{a, a}), a, a)
		}
		wantApply(t, impl.OpHas, yes(), words(b.Text+a.Text+b.Text), a)
	}
}
