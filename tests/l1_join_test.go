package tests

import (
	"math"
	"slices"
	"testing"

	"loop.example/s0011/impl"
)

func wantJoin(t *testing.T, l impl.Lattice, xs []int, want int) {
	t.Helper()
	kept := slices.Clone(xs)
	if got := impl.JoinAll(l, xs); got != want {
		t.Errorf("join of %v (%d entries) is %d, want %d", xs[:min(len(xs), 10)], len(xs), got, want)
	}
	if !slices.Equal(xs, kept) {
		t.Error("the list was written into")
	}
}

// plainJoinAll looks for the least label above the whole list at once, by the order alone.
func plainJoinAll(l impl.Lattice, xs []int) int {
	for c := range l.N {
		if aboveAll(l, c, xs) && leastAbove(l, c, xs) {
			return c
		}
	}
	return -1
}

func aboveAll(l impl.Lattice, c int, xs []int) bool {
	for _, x := range xs {
		if !l.Leq[x*l.N+c] {
			return false
		}
	}
	return true
}

func leastAbove(l impl.Lattice, c int, xs []int) bool {
	for d := range l.N {
		if aboveAll(l, d, xs) && !l.Leq[c*l.N+d] {
			return false
		}
	}
	return true
}

func TestJoinAllWrittenOut(t *testing.T) {
	l := mustBuild(t, cube(3))
	wantJoin(t, l, []int{1, 2}, 3)
	wantJoin(t, l, []int{2, 1}, 3)
	wantJoin(t, l, []int{4, 4, 4}, 4)
	wantJoin(t, l, []int{1, 4, 1, 4, 0}, 5)
	wantJoin(t, l, []int{1, 2, 4}, 7)
	wantJoin(t, l, []int{7, 0}, 7)
	p := mustBuild(t, orderOf(5, 0, 1, 1, 2, 2, 4, 0, 3, 3, 4))
	wantJoin(t, p, []int{1, 2}, 2)
	wantJoin(t, p, []int{1, 3}, 4)
}

func TestJoinAllEmptyList(t *testing.T) {
	wantJoin(t, mustBuild(t, impl.Order{N: 1}), nil, 0)
	wantJoin(t, mustBuild(t, chainUp(5)), []int{}, 0)
	wantJoin(t, mustBuild(t, chainDown(5)), []int{}, 4)
	wantJoin(t, mustBuild(t, chainDown(32)), nil, 31)
	wantJoin(t, mustBuild(t, fan(6)), nil, 5)
}

func TestJoinAllShortLists(t *testing.T) {
	for _, o := range goodOrders() {
		l := mustBuild(t, o)
		for a := range min(l.N, 8) {
			wantJoin(t, l, []int{a}, a)
			for b := range min(l.N, 8) {
				for c := range min(l.N, 8) {
					xs := []int{a, b, l.N - 1 - c}
					wantJoin(t, l, xs, plainJoinAll(l, xs))
				}
			}
		}
	}
}

// Neither the order of the list nor how often a label stands there changes the answer.
func TestJoinAllMixedLists(t *testing.T) {
	m := mixer(2)
	for _, o := range []impl.Order{cube(5), fan(32), chainDown(32), orderOf(7, 0, 1, 0, 2, 1, 3, 2, 3, 3, 4, 3, 5, 4, 6, 5, 6)} {
		l := mustBuild(t, o)
		for range 60 {
			xs := []int{}
			for range m.below(6) {
				xs = append(xs, m.below(l.N))
			}
			want := plainJoinAll(l, xs)
			wantJoin(t, l, xs, want)
			slices.Reverse(xs)
			wantJoin(t, l, xs, want)
			xs = append(xs, xs...)
			slices.Sort(xs)
			wantJoin(t, l, xs, want)
		}
	}
}

func TestJoinAllLongLists(t *testing.T) {
	l := mustBuild(t, cube(5))
	xs := make([]int, impl.MaxJoin)
	wantJoin(t, l, xs, 0)
	xs[0] = 1
	xs[impl.MaxJoin-1] = 16
	wantJoin(t, l, xs, 17)
	wantJoin(t, l, append(slices.Clone(xs), 0), -1)
	wantJoin(t, l, make([]int, 2*impl.MaxJoin), -1)
	wantJoin(t, mustBuild(t, impl.Order{N: 1}), make([]int, impl.MaxJoin+1), -1)
}

func TestJoinAllWrongEntries(t *testing.T) {
	for _, o := range []impl.Order{{N: 1}, chainUp(4), cube(5)} {
		l := mustBuild(t, o)
		for _, bad := range []int{-1, -2, l.N, l.N + 1, 33, -l.N, 1 << 32, math.MaxInt, math.MinInt} {
			wantJoin(t, l, []int{bad}, -1)
			wantJoin(t, l, []int{0, bad}, -1)
			wantJoin(t, l, []int{bad, l.Top}, -1)
			wantJoin(t, l, []int{l.Top, l.Top, bad}, -1)
			long := make([]int, impl.MaxJoin)
			long[impl.MaxJoin-1] = bad
			wantJoin(t, l, long, -1)
		}
	}
}

func TestJoinAllWrongLattices(t *testing.T) {
	good := mustBuild(t, orderOf(4, 0, 1, 0, 2, 1, 3, 2, 3))
	bad := map[string]impl.Lattice{"the zero one": {}, "33 labels": plainTables(33, plainClosure(chainUp(33)))}
	for _, name := range []string{"Leq", "Join", "Meet", "Bot", "Top", "N", "short Leq", "short Join", "short Meet", "Join out of range"} {
		bad[name] = cloneLattice(good)
	}
	bad["Leq"].Leq[1*4+2] = true
	bad["Join"].Join[1*4+2] = 2
	bad["Meet"].Meet[1*4+2] = 1
	bad["Join out of range"].Join[1*4+2] = 99
	change := func(name string, how func(l *impl.Lattice)) {
		l := bad[name]
		how(&l)
		bad[name] = l
	}
	change("Bot", func(l *impl.Lattice) { l.Bot = 1 })
	change("Top", func(l *impl.Lattice) { l.Top = 1 })
	change("N", func(l *impl.Lattice) { l.N = 3 })
	change("short Leq", func(l *impl.Lattice) { l.Leq = l.Leq[:15] })
	change("short Join", func(l *impl.Lattice) { l.Join = nil })
	change("short Meet", func(l *impl.Lattice) { l.Meet = l.Meet[:15] })
	for name, l := range bad {
		for _, xs := range [][]int{nil, {0}, {3}, {1, 2}} {
			if got := impl.JoinAll(l, xs); got != -1 {
				t.Errorf("%s: join of %v is %d, want -1", name, xs, got)
			}
		}
	}
}

func TestJoinAllChangesNoLattice(t *testing.T) {
	l := mustBuild(t, cube(5))
	kept := cloneLattice(l)
	impl.JoinAll(l, []int{1, 2, 4})
	if !sameLattice(l, kept) {
		t.Error("the lattice was written into")
	}
}
