package impl

import (
	"iter"
	"math/bits"
	"slices"
)

const MaxLabels = 32
const MaxPairs = 256
const MaxJoin = 4096

type Pair struct {
	Lo int
	Hi int
}

type Order struct {
	N     int
	Pairs []Pair
}

type Lattice struct {
	N    int
	Leq  []bool
	Join []int
	Meet []int
	Bot  int
	Top  int
}

func BuildLattice(o Order) (Lattice, int) {
	if !validOrder(o) {
		return Lattice{}, 1
	}
	return latticeOf(o.N, declaredAbove(o).closed(o.N))
}

func ValidLattice(l Lattice) bool {
	if !tablesFit(l) {
		return false
	}
	up := readAbove(l)
	// a relation is its own closure exactly when it is reflexive and transitive
	if up != up.closed(l.N) {
		return false
	}
	// an order with no two labels both ways has at most one lattice, so it can be held against the one given
	want, code := latticeOf(l.N, up)
	return code == 0 && sameBounds(want, l)
}

func JoinAll(l Lattice, xs []int) int {
	if len(xs) > MaxJoin || !ValidLattice(l) {
		return -1
	}
	least := l.Bot
	for _, x := range xs {
		if !isLabel(x, l.N) {
			return -1
		}
		least = l.Join[least*l.N+x]
	}
	return least
}

// labelSet holds label a as bit a; MaxLabels labels fill its one word.
type labelSet [1]uint32

func oneLabel(a int) labelSet {
	return labelSet{1 << a}
}

func allLabels(n int) labelSet {
	// at n = 32 the shift leaves 0, and taking 1 from it wraps round to all bits, as is wanted
	return labelSet{1<<n - 1}
}

func (s labelSet) has(a int) bool {
	return s[0]>>a&1 == 1
}

func (s labelSet) union(t labelSet) labelSet {
	return labelSet{s[0] | t[0]}
}

func (s labelSet) minus(t labelSet) labelSet {
	return labelSet{s[0] &^ t[0]}
}

func (s labelSet) common(t labelSet) labelSet {
	return s.minus(s.minus(t))
}

func (s labelSet) isEmpty() bool {
	return s == labelSet{}
}

// lowest is asked only of a set that is not empty.
func (s labelSet) lowest() int {
	return bits.TrailingZeros32(s[0])
}

func (s labelSet) labels() iter.Seq[int] {
	return func(yield func(int) bool) {
		for rest := s; !rest.isEmpty(); {
			a := rest.lowest()
			if !yield(a) {
				return
			}
			rest = rest.minus(oneLabel(a))
		}
	}
}

// labelSets holds a set for each label: the labels above it, or those below it.
// What holds for joins by the one holds for meets by the other, so both are found by the same methods.
type labelSets [MaxLabels]labelSet

// above walks from label a along the sets and gives each label that it comes to once, a itself too.
func (sets labelSets) above(a int) iter.Seq[int] {
	return func(yield func(int) bool) {
		todo := oneLabel(a)
		done := labelSet{}
		for !todo.isEmpty() {
			b := todo.lowest()
			if !yield(b) {
				return
			}
			done = done.union(oneLabel(b))
			todo = todo.union(sets[b]).minus(done)
		}
	}
}

func (sets labelSets) closed(n int) labelSets {
	out := labelSets{}
	for a := range n {
		for b := range sets.above(a) {
			out[a] = out[a].union(oneLabel(b))
		}
	}
	return out
}

// turned makes the down-sets out of the up-sets.
func (sets labelSets) turned(n int) labelSets {
	out := labelSets{}
	for a := range n {
		for b := range sets[a].labels() {
			out[b] = out[b].union(oneLabel(a))
		}
	}
	return out
}

// leastOf gives the label of s whose own set holds all of s, or -1 if there is none.
func (sets labelSets) leastOf(s labelSet) int {
	for c := range s.labels() {
		if s.minus(sets[c]).isEmpty() {
			return c
		}
	}
	return -1
}

// bounds gives the table of joins by up-sets, that of meets by down-sets; false if an entry is lacking.
func (sets labelSets) bounds(n int) ([]int, bool) {
	table := make([]int, 0, n*n)
	for a := range n {
		for b := range n {
			c := sets.leastOf(sets[a].common(sets[b]))
			if c < 0 {
				return nil, false
			}
			table = append(table, c)
		}
	}
	return table, true
}

func (sets labelSets) table(n int) []bool {
	table := make([]bool, 0, n*n)
	for a := range n {
		for b := range n {
			table = append(table, sets[a].has(b))
		}
	}
	return table
}

// latticeOf takes up-sets that are closed; its codes are those of BuildLattice.
func latticeOf(n int, up labelSets) (Lattice, int) {
	down := up.turned(n)
	if hasTwoWays(n, up, down) {
		return Lattice{}, 2
	}
	join, ok := up.bounds(n)
	if !ok {
		return Lattice{}, 3
	}
	meet, ok := down.bounds(n)
	if !ok {
		return Lattice{}, 4
	}
	all := allLabels(n)
	return Lattice{N: n, Leq: up.table(n), Join: join, Meet: meet, Bot: up.leastOf(all), Top: down.leastOf(all)}, 0
}

func hasTwoWays(n int, up labelSets, down labelSets) bool {
	for a := range n {
		if up[a].common(down[a]) != oneLabel(a) {
			return true
		}
	}
	return false
}

func isLabel(a int, n int) bool {
	return 0 <= a && a < n
}

func validOrder(o Order) bool {
	if o.N < 1 || o.N > MaxLabels || len(o.Pairs) > MaxPairs {
		return false
	}
	for _, p := range o.Pairs {
		if !isLabel(p.Lo, o.N) || !isLabel(p.Hi, o.N) {
			return false
		}
	}
	return true
}

func declaredAbove(o Order) labelSets {
	up := labelSets{}
	for _, p := range o.Pairs {
		up[p.Lo] = up[p.Lo].union(oneLabel(p.Hi))
	}
	return up
}

func tablesFit(l Lattice) bool {
	// N comes first: the square of a great N wraps round and may seem to fit
	if l.N < 1 || l.N > MaxLabels {
		return false
	}
	size := l.N * l.N
	return len(l.Leq) == size && len(l.Join) == size && len(l.Meet) == size
}

func readAbove(l Lattice) labelSets {
	up := labelSets{}
	for i, holds := range l.Leq {
		if holds {
			a, b := i/l.N, i%l.N
			up[a] = up[a].union(oneLabel(b))
		}
	}
	return up
}

func sameBounds(x Lattice, y Lattice) bool {
	return x.Bot == y.Bot && x.Top == y.Top && slices.Equal(x.Join, y.Join) && slices.Equal(x.Meet, y.Meet)
}
