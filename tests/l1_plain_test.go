package tests

import (
	"slices"
	"testing"

	"loop.example/s0011/impl"
)

// The tests of chapter 1 hold the program against the document's own words, written out here with plain tables.

func plainClosure(o impl.Order) []bool {
	n := o.N
	leq := make([]bool, n*n)
	for a := range n {
		leq[a*n+a] = true
	}
	for _, p := range o.Pairs {
		leq[p.Lo*n+p.Hi] = true
	}
	for grew := true; grew; {
		grew = false
		for a := range n {
			for b := range n {
				for c := range n {
					if leq[a*n+b] && leq[b*n+c] && !leq[a*n+c] {
						leq[a*n+c] = true
						grew = true
					}
				}
			}
		}
	}
	return leq
}

func plainFlip(n int, leq []bool) []bool {
	out := make([]bool, n*n)
	for a := range n {
		for b := range n {
			out[b*n+a] = leq[a*n+b]
		}
	}
	return out
}

// plainJoin gives the first label that the document's words call a join of a and b, or -1. By the flipped order it gives the meet.
func plainJoin(n int, leq []bool, a int, b int) int {
	for c := range n {
		fits := leq[a*n+c] && leq[b*n+c]
		for d := range n {
			if leq[a*n+d] && leq[b*n+d] && !leq[c*n+d] {
				fits = false
			}
		}
		if fits {
			return c
		}
	}
	return -1
}

func plainJoins(n int, leq []bool) []int {
	out := []int{}
	for a := range n {
		for b := range n {
			out = append(out, plainJoin(n, leq, a, b))
		}
	}
	return out
}

func plainBot(n int, leq []bool) int {
	for c := range n {
		if !slices.Contains(leq[c*n:c*n+n], false) {
			return c
		}
	}
	return -1
}

// plainTables fills in every table that the words give for a relation, with -1 where there is no such label.
func plainTables(n int, leq []bool) impl.Lattice {
	flip := plainFlip(n, leq)
	return impl.Lattice{N: n, Leq: slices.Clone(leq), Join: plainJoins(n, leq), Meet: plainJoins(n, flip), Bot: plainBot(n, leq), Top: plainBot(n, flip)}
}

func plainTwoWays(n int, leq []bool) bool {
	for a := range n {
		for b := range n {
			if a != b && leq[a*n+b] && leq[b*n+a] {
				return true
			}
		}
	}
	return false
}

// plainBuild is asked only of valid orders.
func plainBuild(o impl.Order) (impl.Lattice, int) {
	leq := plainClosure(o)
	l := plainTables(o.N, leq)
	if plainTwoWays(o.N, leq) {
		return impl.Lattice{}, 2
	}
	if slices.Contains(l.Join, -1) {
		return impl.Lattice{}, 3
	}
	if slices.Contains(l.Meet, -1) {
		return impl.Lattice{}, 4
	}
	return l, 0
}

func sameLattice(x impl.Lattice, y impl.Lattice) bool {
	return x.N == y.N && x.Bot == y.Bot && x.Top == y.Top &&
		slices.Equal(x.Leq, y.Leq) && slices.Equal(x.Join, y.Join) && slices.Equal(x.Meet, y.Meet)
}

func cloneLattice(l impl.Lattice) impl.Lattice {
	l.Leq = slices.Clone(l.Leq)
	l.Join = slices.Clone(l.Join)
	l.Meet = slices.Clone(l.Meet)
	return l
}

func pairsOf(ends ...int) []impl.Pair {
	out := []impl.Pair{}
	for i := 0; i+1 < len(ends); i += 2 {
		out = append(out, impl.Pair{Lo: ends[i], Hi: ends[i+1]})
	}
	return out
}

func orderOf(n int, ends ...int) impl.Order {
	return impl.Order{N: n, Pairs: pairsOf(ends...)}
}

func chainUp(n int) impl.Order {
	o := impl.Order{N: n}
	for a := 1; a < n; a++ {
		o.Pairs = append(o.Pairs, impl.Pair{Lo: a - 1, Hi: a})
	}
	return o
}

func chainDown(n int) impl.Order {
	o := impl.Order{N: n}
	for a := 1; a < n; a++ {
		o.Pairs = append(o.Pairs, impl.Pair{Lo: a, Hi: a - 1})
	}
	return o
}

// cube orders the sets of d things: label a lies below label b if every bit of a is in b.
func cube(d int) impl.Order {
	o := impl.Order{N: 1 << d}
	for a := range o.N {
		for bit := range d {
			if a>>bit&1 == 0 {
				o.Pairs = append(o.Pairs, impl.Pair{Lo: a, Hi: a | 1<<bit})
			}
		}
	}
	return o
}

// fan has one label below and one above n-2 labels that lie apart, with the bounds in the last two places.
func fan(n int) impl.Order {
	o := impl.Order{N: n}
	for a := range n - 2 {
		o.Pairs = append(o.Pairs, impl.Pair{Lo: n - 1, Hi: a}, impl.Pair{Lo: a, Hi: n - 2})
	}
	return o
}

// crossed has a label below all and one above all, but 1 and 2 have no least label above, and 3 and 4 no greatest below.
func crossed() impl.Order {
	return orderOf(6, 0, 1, 0, 2, 1, 3, 1, 4, 2, 3, 2, 4, 3, 5, 4, 5)
}

func goodOrders() map[string]impl.Order {
	return map[string]impl.Order{
		"one label":         {N: 1},
		"one label, itself": orderOf(1, 0, 0),
		"two":               orderOf(2, 0, 1),
		"two, turned":       orderOf(2, 1, 0),
		"chain of 5":        chainUp(5),
		"chain of 5, down":  chainDown(5),
		"diamond":           orderOf(4, 0, 1, 0, 2, 1, 3, 2, 3),
		"diamond, mixed":    orderOf(4, 3, 1, 3, 0, 1, 2, 0, 2),
		"pentagon":          orderOf(5, 0, 1, 1, 2, 2, 4, 0, 3, 3, 4),
		"fan of 6":          fan(6),
		"cube of 8":         cube(3),
		"two diamonds":      orderOf(7, 0, 1, 0, 2, 1, 3, 2, 3, 3, 4, 3, 5, 4, 6, 5, 6),
		"chain of 32":       chainUp(impl.MaxLabels),
		"chain of 32, down": chainDown(impl.MaxLabels),
		"cube of 32":        cube(5),
		"fan of 32":         fan(impl.MaxLabels),
	}
}

func mustBuild(t *testing.T, o impl.Order) impl.Lattice {
	t.Helper()
	l, code := impl.BuildLattice(o)
	if code != 0 {
		t.Fatalf("order %v: code %d, want 0", o, code)
	}
	return l
}
