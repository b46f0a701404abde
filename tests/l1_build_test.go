package tests

import (
	"math"
	"slices"
	"testing"

	"loop.example/s0011/impl"
)

func wantBuild(t *testing.T, name string, o impl.Order, want impl.Lattice, wantCode int) {
	t.Helper()
	l, code := impl.BuildLattice(o)
	if code != wantCode {
		t.Errorf("%s: code %d, want %d", name, code, wantCode)
		return
	}
	if !sameLattice(l, want) {
		t.Errorf("%s: lattice %v, want %v", name, l, want)
	}
}

func wantCode(t *testing.T, name string, o impl.Order, code int) {
	t.Helper()
	wantBuild(t, name, o, impl.Lattice{}, code)
}

func TestBuildGoodOrders(t *testing.T) {
	for name, o := range goodOrders() {
		want, code := plainBuild(o)
		if code != 0 {
			t.Fatalf("%s is no lattice by the plain words: code %d", name, code)
		}
		wantBuild(t, name, o, want, 0)
	}
}

// The one test of the tables that leans on no other code.
func TestBuildWrittenOut(t *testing.T) {
	yes, no := true, false
	wantBuild(t, "one label", impl.Order{N: 1}, impl.Lattice{N: 1, Leq: []bool{yes}, Join: []int{0}, Meet: []int{0}}, 0)
	wantBuild(t, "label 2 at the bottom, 0 at the top", orderOf(4, 2, 1, 2, 3, 1, 0, 3, 0), impl.Lattice{
		N:    4,
		Leq:  []bool{yes, no, no, no, yes, yes, no, no, yes, yes, yes, yes, yes, no, no, yes},
		Join: []int{0, 0, 0, 0, 0, 1, 1, 0, 0, 1, 2, 3, 0, 0, 3, 3},
		Meet: []int{0, 1, 2, 3, 1, 1, 2, 2, 2, 2, 2, 2, 3, 2, 2, 3},
		Bot:  2,
		Top:  0,
	}, 0)
}

func ordersOfAllPairs(n int, visit func(o impl.Order)) {
	all := []impl.Pair{}
	for a := range n {
		for b := range n {
			all = append(all, impl.Pair{Lo: a, Hi: b})
		}
	}
	for pick := range 1 << len(all) {
		o := impl.Order{N: n}
		for i, p := range all {
			if pick>>i&1 == 1 {
				o.Pairs = append(o.Pairs, p)
			}
		}
		visit(o)
	}
}

func TestBuildEverySmallOrder(t *testing.T) {
	seen := [5]int{}
	for n := 1; n <= 4; n++ {
		ordersOfAllPairs(n, func(o impl.Order) {
			want, code := plainBuild(o)
			seen[code]++
			wantBuild(t, "small order", o, want, code)
		})
	}
	for code, count := range seen {
		if code != 1 && count == 0 {
			t.Errorf("no small order has code %d", code)
		}
	}
}

// mixer is a fixed row of numbers that looks mixed; the tests read the same row at every run.
type mixer uint64

func (m *mixer) below(n int) int {
	*m = *m*6364136223846793005 + 1442695040888963407
	return int(uint64(*m) >> 33 % uint64(n))
}

func mixedNames(m *mixer, n int) []int {
	names := make([]int, n)
	for i := range names {
		names[i] = i
		j := m.below(i + 1)
		names[i], names[j] = names[j], names[i]
	}
	return names
}

// mixedOrder mostly goes upward, and often has a bottom and a top, so that all codes come up among its orders.
func mixedOrder(m *mixer) impl.Order {
	n := 2 + m.below(impl.MaxLabels-1)
	names := mixedNames(m, n)
	o := impl.Order{N: n}
	add := func(a int, b int) {
		o.Pairs = append(o.Pairs, impl.Pair{Lo: names[a], Hi: names[b]})
	}
	for range m.below(4 * n) {
		a, b := m.below(n), m.below(n)
		if a > b && m.below(50) > 0 {
			a, b = b, a
		}
		add(a, b)
	}
	bottom, top := m.below(4) > 0, m.below(4) > 0
	for a := range n {
		if bottom {
			add(0, a)
		}
		if top {
			add(a, n-1)
		}
	}
	return o
}

func TestBuildMixedOrders(t *testing.T) {
	m := mixer(1)
	seen := [5]int{}
	for range 3000 {
		o := mixedOrder(&m)
		want, code := plainBuild(o)
		seen[code]++
		wantBuild(t, "mixed order", o, want, code)
	}
	if seen[0] == 0 || seen[2] == 0 || seen[3] == 0 || seen[4] == 0 {
		t.Errorf("the mixed orders miss a code: %v", seen)
	}
}

func TestBuildSaysNothingNew(t *testing.T) {
	plain := orderOf(4, 0, 1, 0, 2, 1, 3, 2, 3)
	want := mustBuild(t, plain)
	twice := impl.Order{N: 4, Pairs: append(slices.Clone(plain.Pairs), plain.Pairs...)}
	wantBuild(t, "every pair twice", twice, want, 0)
	wantBuild(t, "every label below itself", orderOf(4, 0, 0, 0, 1, 1, 1, 0, 2, 2, 2, 1, 3, 3, 3, 2, 3), want, 0)
	wantBuild(t, "what follows is said too", orderOf(4, 0, 3, 0, 1, 0, 2, 1, 3, 2, 3), want, 0)
	wantBuild(t, "last pair first", orderOf(4, 2, 3, 1, 3, 0, 2, 0, 1), want, 0)
}

func TestBuildLimits(t *testing.T) {
	full := chainUp(impl.MaxLabels)
	last := full.Pairs[len(full.Pairs)-1]
	fill := full.Pairs[:len(full.Pairs)-1]
	o := impl.Order{N: impl.MaxLabels, Pairs: slices.Clone(fill)}
	for len(o.Pairs) < impl.MaxPairs-1 {
		o.Pairs = append(o.Pairs, impl.Pair{Lo: 7, Hi: 7})
	}
	wantCode(t, "the last link lacks", o, 3)
	o.Pairs = append(o.Pairs, last)
	wantBuild(t, "32 labels and 256 pairs, the last one needed", o, mustBuild(t, full), 0)
	o.Pairs = append(o.Pairs, last)
	wantCode(t, "257 pairs", o, 1)
	wantCode(t, "33 labels", chainUp(impl.MaxLabels+1), 1)
	one := impl.Order{N: 1}
	for len(one.Pairs) < impl.MaxPairs {
		one.Pairs = append(one.Pairs, impl.Pair{})
	}
	wantBuild(t, "one label, 256 pairs", one, mustBuild(t, impl.Order{N: 1}), 0)
	one.Pairs = append(one.Pairs, impl.Pair{})
	wantCode(t, "one label, 257 pairs", one, 1)
}

func TestBuildCode1(t *testing.T) {
	for _, n := range []int{0, -1, -32, 33, 34, 64, math.MaxInt, math.MinInt} {
		wantCode(t, "no pairs", impl.Order{N: n}, 1)
		wantCode(t, "some pairs", orderOf(n, 0, 0, 0, 1), 1)
	}
	for _, bad := range []int{-1, 4, 5, 32, 33, 1 << 32, -1 << 32, math.MaxInt, math.MinInt} {
		for place := range 4 {
			for end := range 2 {
				ends := []int{0, 1, 0, 2, 1, 3, 2, 3}
				ends[2*place+end] = bad
				wantCode(t, "an end that is no label", orderOf(4, ends...), 1)
			}
		}
		wantCode(t, "both ends the same and no label", orderOf(4, bad, bad), 1)
	}
	wantCode(t, "one label, label 1 named", orderOf(1, 0, 1), 1)
}

func TestBuildCode2(t *testing.T) {
	wantCode(t, "two", orderOf(2, 0, 1, 1, 0), 2)
	wantCode(t, "three", orderOf(3, 0, 1, 1, 2, 2, 0), 2)
	wantCode(t, "within a diamond", orderOf(5, 0, 1, 0, 2, 1, 3, 2, 3, 3, 4, 4, 2), 2)
	round := chainUp(impl.MaxLabels)
	round.Pairs = append(round.Pairs, impl.Pair{Lo: 31, Hi: 0})
	wantCode(t, "all 32 labels", round, 2)
	wantCode(t, "the two last labels", orderOf(32, 30, 31, 31, 30), 2)
}

func TestBuildCode3(t *testing.T) {
	wantCode(t, "nothing said of two", impl.Order{N: 2}, 3)
	wantCode(t, "nothing said of 32", impl.Order{N: 32}, 3)
	wantCode(t, "two tops", orderOf(3, 0, 1, 0, 2), 3)
	wantCode(t, "two least labels above", crossed(), 3)
	wantCode(t, "a label apart", orderOf(5, 0, 1, 0, 2, 1, 3, 2, 3), 3)
}

func TestBuildCode4(t *testing.T) {
	wantCode(t, "two bottoms", orderOf(3, 0, 2, 1, 2), 4)
	wantCode(t, "three bottoms", orderOf(5, 0, 3, 1, 3, 3, 4, 2, 4), 4)
	noBottom := cube(5)
	noBottom.Pairs = slices.DeleteFunc(noBottom.Pairs, func(p impl.Pair) bool { return p.Lo == 0 && p.Hi != 1 })
	wantCode(t, "a cube whose bottom is cut from all but one", noBottom, 4)
}

func TestBuildOrderOfCodes(t *testing.T) {
	wantCode(t, "a label that is none, and a circle", orderOf(2, 0, 1, 1, 0, 0, 2), 1)
	wantCode(t, "too many labels, and a circle", orderOf(33, 0, 1, 1, 0), 1)
	circles := orderOf(2, 0, 1)
	for len(circles.Pairs) <= impl.MaxPairs {
		circles.Pairs = append(circles.Pairs, impl.Pair{Lo: 1, Hi: 0})
	}
	wantCode(t, "too many pairs, and a circle", circles, 1)
	wantCode(t, "a circle among the last, no join among the first", orderOf(4, 2, 3, 3, 2), 2)
	wantCode(t, "a circle among the first, no meet among the last", orderOf(5, 0, 1, 1, 0, 2, 4, 3, 4, 0, 2), 2)
	wantCode(t, "no meet among the first, no join among the last", orderOf(5, 0, 2, 1, 2, 2, 3, 2, 4), 3)
}

func TestBuildAnswerIsNew(t *testing.T) {
	o := orderOf(4, 0, 1, 0, 2, 1, 3, 2, 3)
	given := slices.Clone(o.Pairs)
	first := mustBuild(t, o)
	want := cloneLattice(first)
	second := mustBuild(t, o)
	for i := range second.Join {
		second.Leq[i] = !second.Leq[i]
		second.Join[i] = 50
		if second.Meet[i] == 50 {
			t.Fatal("Join and Meet share memory")
		}
		second.Meet[i] = 60
	}
	if !slices.Equal(o.Pairs, given) {
		t.Error("the order was written into")
	}
	if !sameLattice(first, want) {
		t.Error("two answers share memory")
	}
	if third := mustBuild(t, o); !sameLattice(third, want) {
		t.Error("an answer hangs on what was done with an earlier one")
	}
}

func TestBuildMakesValidLattices(t *testing.T) {
	for name, o := range goodOrders() {
		if !impl.ValidLattice(mustBuild(t, o)) {
			t.Errorf("%s: what was built is not valid", name)
		}
	}
}
