package tests

import (
	"fmt"
	"slices"
	"strings"
	"testing"

	"loop.example/s0011/impl"
)

// diamond has low at the bottom, l and r apart from each other, and top above both.
const diamond = "label low;label l;label r;label top;below low l;below low r;below l top;below r top;"

const low, left, right, top = 0, 1, 2, 3

func wantLabels(t *testing.T, text string, want ...int) {
	t.Helper()
	if got := impl.InferLabels(formOf(t, text)); !slices.Equal(got, want) {
		t.Errorf("labels of %.600q: %v, want %v", text, got, want)
	}
}

func TestLabelsEachRuleReads(t *testing.T) {
	for _, rule := range []string{"is b", "when b", `valid b says ""`, "must b", "is 1 + -b", "is 1 when 2 must if(true, b, 3)", "is b + b"} {
		wantLabels(t, diamond+"field a int at auto "+rule+";field b int at l;", left, left)
		wantLabels(t, diamond+"field b int at r;field a int at auto "+rule+";", right, right)
		wantLabels(t, diamond+"field a int at auto "+rule+";field b int at auto;", low, low)
		wantLabels(t, diamond+"field a int at auto "+rule+";field b int at auto is c;field c int at top;", top, top, top)
	}
	for _, rules := range []string{"is b + c", "is b when c", `is b valid c says ""`, "is c must b", `when b valid c says ""`, "when c must b", `valid b says "" must c`} {
		wantLabels(t, diamond+"field a int at auto "+rules+";field b int at l;field c int at r;", top, left, right)
		wantLabels(t, diamond+"field a int at auto "+rules+";field b int at l;field c int at low;", left, left, low)
		wantLabels(t, diamond+"field a int at auto "+rules+";field b int at r;field c int at r;", right, right, right)
		wantLabels(t, diamond+"field a int at auto "+rules+";field b int at top;field c int at low;", top, top, low)
	}
	wantLabels(t, diamond+`field a int at auto is b when c valid d says "" must e;field b int at low;field c int at l;field d int at low;field e int at r;`, top, low, left, low, right)
}

func TestLabelsWrittenOut(t *testing.T) {
	wantLabels(t, diamond)
	wantLabels(t, diamond+"field a int at auto;", low)
	wantLabels(t, diamond+"field a int at auto is 1 when true valid 2 says \"l\" must false;", low)
	wantLabels(t, diamond+"field a int at l;field b int at r;field c int at top;field d int at low;", left, right, top, low)
	wantLabels(t, diamond+"field a int at l;field b int at r;field c int at auto is a + b;field d int at auto is a;field e int at auto is d * c;", left, right, top, left, top)
	// the bottom is not always label 0
	wantLabels(t, "label high;label low;below low high;field a int at auto;field b int at auto is a;field c int at auto is d;field d int at high;", 1, 1, 0, 0)
	// three labels of which any two meet in the top alone
	three := "label a;label b;label c;label bot;label top;below bot a;below bot b;below bot c;below a top;below b top;below c top;"
	wantLabels(t, three+"field x int at a;field y int at b;field z int at c;field p int at auto is x + y;field q int at auto is z;field r int at auto is q + z;field s int at auto;", 0, 1, 2, 4, 2, 2, 3)
	// a set of things is read as far as its things are
	cubed := labelled(cube(3)) + "field a int at l1;field b int at l2;field c int at l4;"
	wantLabels(t, cubed+"field d int at auto is a + b;field e int at auto is d + c;field f int at auto is b + c;field g int at auto is a;field h int at auto;", 1, 2, 4, 3, 7, 6, 1, 0)
}

// A declared label stands as it is, and what reads the field goes by it, not by what the field reads.
func TestLabelsDeclaredStands(t *testing.T) {
	wantLabels(t, diamond+"field a int at low is b;field b int at top;", low, top)
	wantLabels(t, diamond+"field a int at low is b;field b int at top;field c int at auto is a;", low, top, low)
	wantLabels(t, diamond+"field a int at l is b;field b int at r is a;field c int at auto is a;field d int at auto is b;", left, right, left, right)
	wantLabels(t, diamond+`field a int at low when b valid b says "" must b;field b int at top;field c int at auto is a must c;`, low, top, low)
	wantLabels(t, diamond+"field a int at top is b;field b int at low;field c int at auto is b;", top, low, low)
	wantLabels(t, diamond+"field a int at top;field b int at auto is c;field c int at low is a;", top, low, low)
}

func TestLabelsInCircles(t *testing.T) {
	for _, rule := range []string{"is #", "when #", `valid # says ""`, "must #"} {
		reads := func(name string) string { return strings.ReplaceAll(rule, "#", name) }
		wantLabels(t, diamond+"field a int at auto "+reads("a")+";", low)
		wantLabels(t, diamond+"field a int at auto "+reads("a + b")+";field b int at l;", left, left)
		wantLabels(t, diamond+"field a int at auto "+reads("b")+";field b int at auto "+reads("a")+";", low, low)
		wantLabels(t, diamond+"field a int at auto "+reads("b")+";field b int at auto "+reads("a + c")+";field c int at r;", right, right, right)
		wantLabels(t, diamond+"field c int at r;field a int at auto "+reads("b + c")+";field b int at auto "+reads("a")+";", right, right, right)
		wantLabels(t, diamond+"field a int at auto "+reads("b")+";field b int at auto "+reads("c + l")+";field c int at auto "+reads("a + r")+";field l int at l;field r int at r;", top, top, top, left, right)
		// what the circle feeds rises with it, what only feeds the circle does not
		wantLabels(t, diamond+"field a int at auto "+reads("b")+";field b int at auto "+reads("a + c + d")+";field c int at l;field d int at auto;field e int at auto "+reads("a")+";", left, left, left, low, left)
	}
	// a declared label in the circle ends what goes round
	wantLabels(t, diamond+"field a int at auto is b;field b int at low is c;field c int at auto is a + d;field d int at top;", low, low, top, top)
	wantLabels(t, diamond+"field a int at auto valid b says \"\";field b int at l must a;field c int at auto is a;", left, left, left)
}

func TestLabelsEdges(t *testing.T) {
	wantLabels(t, "label a;")
	wantLabels(t, "label a;field x int at auto;field y int at a is x;field z int at auto is y must z;", 0, 0, 0)
	for name, o := range goodOrders() {
		if o.N != impl.MaxLabels {
			continue
		}
		text := labelled(o)
		for a := range o.N {
			text += fmt.Sprintf("field d%d int at l%d;field a%d int at auto is d%d;", a, a, a, a)
		}
		for a := range o.N {
			text += fmt.Sprintf("field b%d int at auto is a%d when a%d;", a, a, (a*7+3)%o.N)
		}
		text += "field all int at auto is " + reading(strings.Fields(strings.TrimSpace(repeated(" b#", o.N)))) + ";"
		f := formOf(t, text)
		l := mustBuild(t, o)
		labels := impl.InferLabels(f)
		if len(labels) != len(f.Fields) || labels[len(labels)-1] != l.Top {
			t.Errorf("%s: labels %v", name, labels)
		}
		wantFlow(t, f)
	}
}

func TestLabelsOfMaxFields(t *testing.T) {
	const last = impl.MaxFields - 1
	head := "label low;label high;below low high;"
	all := func(label int) []int { return slices.Repeat([]int{label}, 200) }
	wantLabels(t, head+fullForm(func(int) string { return "" }), all(0)...)
	for _, rule := range []string{"is f%d", "when f%d", `valid f%d says ""`, "must f%d"} {
		ring := head + fullForm(func(i int) string { return fmt.Sprintf(rule, (i+1)%200) })
		wantLabels(t, ring, all(0)...)
		high := strings.Replace(ring, "field f199 int at auto", "field f199 int at high", 1)
		wantLabels(t, high, all(1)...)
		high = strings.Replace(ring, "field f0 int at auto", "field f0 int at high", 1)
		wantLabels(t, high, all(1)...)
		halves := strings.NewReplacer("field f100 int at auto", "field f100 int at low", "field f0 int at auto", "field f0 int at low", "field f199 int at auto", "field f199 int at high").Replace(ring)
		wantLabels(t, halves, append(all(0)[:101], all(1)[101:]...)...)
	}
	many := head + fullForm(func(i int) string {
		if i == 0 {
			return "is " + reading(numbered(1, 200))
		}
		return ""
	})
	wantLabels(t, strings.Replace(many, "field f199 int at auto", "field f199 int at high", 1), append(append([]int{1}, all(0)[:last-1]...), 1)...)
	tooMany := formOf(t, many)
	tooMany.Fields = append(tooMany.Fields, impl.Field{Name: "z", Type: 1, Label: -1})
	if got := impl.InferLabels(tooMany); len(got) != 0 {
		t.Errorf("one field too many: %v", got)
	}
}

// noLattices has, by the code of BuildLattice, labels that are no lattice.
func noLattices() map[int][]string {
	return map[int][]string{
		1: {""},
		2: {"label a;label b;below a b;below b a;", "label a;label b;label c;below a b;below b c;below c a;", labelled(orderOf(4, 0, 1, 0, 2, 1, 3, 2, 3, 3, 1))},
		3: {"label a;label b;", "label a;label b;below a a;", labelled(crossed()), "label a;label b;label c;below a b;below a c;"},
		4: {"label a;label b;label c;below a c;below b c;"},
	}
}

func TestLabelsWithoutALattice(t *testing.T) {
	for code, heads := range noLattices() {
		for _, head := range heads {
			f := formOf(t, head+"field x int at auto;field y int at auto is x;")
			if _, got := impl.BuildLattice(impl.Order{N: len(f.Labels), Pairs: f.Below}); got != code {
				t.Errorf("%q: code %d, want %d", head, got, code)
			}
			wantLabels(t, head+"field x int at auto;field y int at auto is x;")
			wantLabels(t, head)
			if code != 1 {
				name := strings.Fields(strings.ReplaceAll(head, ";", " "))[1]
				wantLabels(t, head+"field x int at "+name+";field y int at "+name+" is x;")
			}
		}
	}
	wantLabels(t, "")
}

func TestLabelsOfFormsNotValid(t *testing.T) {
	for what, f := range notValidForms(t) {
		if got := impl.InferLabels(f); len(got) != 0 {
			t.Errorf("%s: labels %v", what, got)
		}
	}
}

func TestLabelsAnswerIsNew(t *testing.T) {
	f := formOf(t, diamond+"field a int at l;field b int at auto is a;")
	for range 2 {
		labels := impl.InferLabels(f)
		if !slices.Equal(labels, []int{left, left}) {
			t.Fatalf("labels %v", labels)
		}
		labels[0], labels[1] = 9, 9
	}
}

// choices gives every list of n labels of size many.
func choices(n int, size int, visit func([]int)) {
	labels := make([]int, n)
	for {
		visit(labels)
		k := 0
		for k < n && labels[k] == size-1 {
			labels[k] = 0
			k++
		}
		if k == n {
			return
		}
		labels[k]++
	}
}

// meetsRules is what promise 9 asks of a choice of labels.
func meetsRules(f impl.Form, l impl.Lattice, reads [][]bool, labels []int) bool {
	for k, x := range f.Fields {
		if x.Label != -1 && labels[k] != x.Label {
			return false
		}
		for j := range f.Fields {
			if x.Label == -1 && reads[j][k] && !l.Leq[labels[j]*l.N+labels[k]] {
				return false
			}
		}
	}
	return true
}

// Every choice of labels is tried: the answer meets the rules and lies below every other that does.
func TestLabelsAreTheLeast(t *testing.T) {
	m := mixer(41)
	others := 0
	for range 3000 {
		f := mixedFlow(&m, smallLattices[m.below(len(smallLattices))], 1+m.below(5))
		l, code := plainLattice(f)
		got := impl.InferLabels(f)
		if code != 0 || len(got) != len(f.Fields) {
			t.Fatalf("%q: code %d, labels %v", impl.PrintForm(f), code, got)
		}
		reads := plainReads(f, allRules)
		if !meetsRules(f, l, reads, got) {
			t.Errorf("%q: labels %v break a rule", impl.PrintForm(f), got)
		}
		choices(len(f.Fields), l.N, func(labels []int) {
			if !meetsRules(f, l, reads, labels) {
				return
			}
			others++
			for k, a := range labels {
				if !l.Leq[got[k]*l.N+a] {
					t.Errorf("%q: labels %v, but %v is lower at %d", impl.PrintForm(f), got, labels, k)
				}
			}
		})
	}
	if others < 10000 {
		t.Errorf("only %d choices of labels", others)
	}
}
