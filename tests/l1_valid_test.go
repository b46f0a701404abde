package tests

import (
	"math"
	"slices"
	"testing"

	"loop.example/s0011/impl"
)

func wantValid(t *testing.T, name string, l impl.Lattice, want bool) {
	t.Helper()
	if got := impl.ValidLattice(l); got != want {
		t.Errorf("%s: ValidLattice of %v is %v", name, l, got)
	}
}

func TestValidGoodOrders(t *testing.T) {
	for name, o := range goodOrders() {
		l, _ := plainBuild(o)
		kept := cloneLattice(l)
		wantValid(t, name, l, true)
		if !sameLattice(l, kept) {
			t.Errorf("%s: the lattice was written into", name)
		}
	}
}

// One changed entry makes a table untrue: each of the three tables settles the other two.
func TestValidOneEntryChanged(t *testing.T) {
	for name, o := range goodOrders() {
		if o.N > 8 {
			continue
		}
		good, _ := plainBuild(o)
		others := []int{-2, -1, o.N, o.N + 1, 32, 1 << 32, math.MaxInt, math.MinInt}
		for a := range o.N {
			others = append(others, a)
		}
		for i := range good.Leq {
			bad := cloneLattice(good)
			bad.Leq[i] = !bad.Leq[i]
			wantValid(t, name+", Leq", bad, false)
		}
		changeEach(t, name+", Join", good, others, func(l *impl.Lattice, i int) *int { return &l.Join[i] })
		changeEach(t, name+", Meet", good, others, func(l *impl.Lattice, i int) *int { return &l.Meet[i] })
		changeEach(t, name+", Bot", good, others, func(l *impl.Lattice, i int) *int { return &l.Bot })
		changeEach(t, name+", Top", good, others, func(l *impl.Lattice, i int) *int { return &l.Top })
	}
}

func changeEach(t *testing.T, name string, good impl.Lattice, others []int, at func(*impl.Lattice, int) *int) {
	t.Helper()
	for i := range good.Join {
		for _, other := range others {
			bad := cloneLattice(good)
			entry := at(&bad, i)
			if *entry != other {
				*entry = other
				wantValid(t, name, bad, false)
			}
		}
	}
}

func TestValidEveryLatticeOfTwo(t *testing.T) {
	accepted := 0
	for pick := range 1 << 14 {
		l := impl.Lattice{N: 2, Bot: pick >> 12 & 1, Top: pick >> 13 & 1}
		for i := range 4 {
			l.Leq = append(l.Leq, pick>>i&1 == 1)
			l.Join = append(l.Join, pick>>(4+i)&1)
			l.Meet = append(l.Meet, pick>>(8+i)&1)
		}
		if impl.ValidLattice(l) {
			accepted++
		}
	}
	if accepted != 2 {
		t.Errorf("%d lattices of two labels are valid, want 2", accepted)
	}
}

// Every relation on three labels, with the best tables that there are for it.
func TestValidEveryRelationOfThree(t *testing.T) {
	accepted := 0
	for pick := range 1 << 9 {
		leq := []bool{}
		for i := range 9 {
			leq = append(leq, pick>>i&1 == 1)
		}
		if impl.ValidLattice(plainTables(3, leq)) {
			accepted++
		}
	}
	// the only lattices of three labels are the chains, and there are six
	if accepted != 6 {
		t.Errorf("%d relations on three labels are valid, want 6", accepted)
	}
}

func TestValidCountOfLabels(t *testing.T) {
	wantValid(t, "the zero lattice", impl.Lattice{}, false)
	wantValid(t, "exactly 32", plainTables(32, plainClosure(chainUp(32))), true)
	wantValid(t, "33", plainTables(33, plainClosure(chainUp(33))), false)
	one := impl.Lattice{N: 1, Leq: []bool{true}, Join: []int{0}, Meet: []int{0}}
	wantValid(t, "one", one, true)
	one.N = -1
	wantValid(t, "-1, whose square is 1", one, false)
	wantValid(t, "a great N whose square wraps to 0", impl.Lattice{N: 1 << 32}, false)
	wantValid(t, "a small N whose square wraps to 0", impl.Lattice{N: math.MinInt}, false)
	for _, n := range []int{0, 3, 5, -4, 31, 32} {
		l := mustBuild(t, orderOf(4, 0, 1, 0, 2, 1, 3, 2, 3))
		l.N = n
		wantValid(t, "another N than that of the tables", l, false)
	}
}

func TestValidTableSizes(t *testing.T) {
	for _, o := range []impl.Order{{N: 1}, orderOf(4, 0, 1, 0, 2, 1, 3, 2, 3), chainUp(32)} {
		good := mustBuild(t, o)
		bad := []impl.Lattice{}
		for range 9 {
			bad = append(bad, cloneLattice(good))
		}
		bad[0].Leq = append(bad[0].Leq, true)
		bad[1].Leq = bad[1].Leq[:len(bad[1].Leq)-1]
		bad[2].Leq = nil
		bad[3].Join = append(bad[3].Join, 0)
		bad[4].Join = bad[4].Join[:len(bad[4].Join)-1]
		bad[5].Join = nil
		bad[6].Meet = append(bad[6].Meet, 0)
		bad[7].Meet = bad[7].Meet[:len(bad[7].Meet)-1]
		bad[8].Meet = nil
		for _, l := range bad {
			wantValid(t, "a table of another size", l, false)
		}
	}
}

// Everything else about this relation is in order: joins, meets, bounds. Only (1, 1) lacks.
func TestValidAsksForReflexive(t *testing.T) {
	leq := plainClosure(chainUp(3))
	leq[1*3+1] = false
	l := plainTables(3, leq)
	if slices.Contains(l.Join, -1) || slices.Contains(l.Meet, -1) || l.Bot != 0 || l.Top != 2 {
		t.Fatalf("the input breaks more than one clause: %v", l)
	}
	wantValid(t, "a label that does not lie below itself", l, false)
}

// Everything else about this relation is in order: joins, meets, bounds. Only (1, 3) lacks, between (1, 2) and (2, 3).
func TestValidAsksForTransitive(t *testing.T) {
	leq := plainClosure(chainUp(5))
	leq[1*5+3] = false
	l := plainTables(5, leq)
	if slices.Contains(l.Join, -1) || slices.Contains(l.Meet, -1) || l.Bot != 0 || l.Top != 4 {
		t.Fatalf("the input breaks more than one clause: %v", l)
	}
	wantValid(t, "two steps without the long one", l, false)
}

// 1 and 2 lie below each other, so each entry has a label that meets the words for a join or a meet.
func TestValidAsksForOneWay(t *testing.T) {
	leq := plainClosure(orderOf(4, 0, 1, 1, 2, 2, 1, 2, 3))
	l := plainTables(4, leq)
	if slices.Contains(l.Join, -1) || slices.Contains(l.Meet, -1) || l.Bot != 0 || l.Top != 3 {
		t.Fatalf("the input breaks more than one clause: %v", l)
	}
	wantValid(t, "two labels below each other", l, false)
}

// Where there is no join no entry is right, and least of all the one that says so.
func TestValidAsksForJoinsAndMeets(t *testing.T) {
	l := plainTables(6, plainClosure(crossed()))
	if l.Bot != 0 || l.Top != 5 || l.Join[1*6+2] != -1 || l.Meet[3*6+4] != -1 {
		t.Fatalf("the input is not as it should be: %v", l)
	}
	wantValid(t, "entries -1", l, false)
	for join := -1; join <= 6; join++ {
		for meet := -1; meet <= 6; meet++ {
			l.Join[1*6+2], l.Join[2*6+1] = join, join
			l.Meet[3*6+4], l.Meet[4*6+3] = meet, meet
			wantValid(t, "any entries", l, false)
		}
	}
	for _, o := range []impl.Order{{N: 2}, orderOf(3, 0, 1, 0, 2), orderOf(3, 0, 2, 1, 2)} {
		wantValid(t, "no bottom or no top", plainTables(o.N, plainClosure(o)), false)
	}
}

// The tables of the turned order, all true of that one.
func TestValidHoldsTablesTogether(t *testing.T) {
	up, down := mustBuild(t, chainUp(4)), mustBuild(t, chainDown(4))
	for pick := 1; pick < 1<<5-1; pick++ {
		l := cloneLattice(up)
		if pick&1 != 0 {
			l.Leq = slices.Clone(down.Leq)
		}
		if pick&2 != 0 {
			l.Join = slices.Clone(down.Join)
		}
		if pick&4 != 0 {
			l.Meet = slices.Clone(down.Meet)
		}
		if pick&8 != 0 {
			l.Bot = down.Bot
		}
		if pick&16 != 0 {
			l.Top = down.Top
		}
		wantValid(t, "tables of two orders", l, false)
	}
}
