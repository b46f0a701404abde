package tests

import (
	"fmt"
	"slices"
	"strings"
	"testing"

	"loop.example/s0011/impl"
)

// wantDiag asks Load of a text and, if ParseForm accepts it, CheckForm of its form.
func wantDiag(t *testing.T, text string, code int, at int) {
	t.Helper()
	want := impl.Diag{Code: code, At: at}
	parsed, refused := impl.ParseForm(text)
	loaded, d := impl.Load(text)
	if d != want {
		t.Errorf("load of %.600q: %v, want %v", text, d, want)
	}
	if code == 0 && !sameForm(loaded, parsed) || code != 0 && !sameForm(loaded, impl.Form{}) {
		t.Errorf("load of %.600q gives %.300v with %v", text, loaded, want)
	}
	if refused.Code != 0 {
		return
	}
	if got := impl.CheckForm(parsed); got != want {
		t.Errorf("check of %.600q: %v, want %v", text, got, want)
	}
}

func wantNotSound(t *testing.T, what string, f impl.Form, want impl.Diag) {
	t.Helper()
	if got := impl.CheckForm(f); got != want {
		t.Errorf("%s: %v, want %v", what, got, want)
	}
}

func TestLoadAccepts(t *testing.T) {
	for _, text := range []string{
		"label a;",
		"label a;below a a;role r at a;",
		"label a;field x int at auto;",
		"label low;label high;below low high;",
		"label low;\nlabel high;\nbelow low high;\nrole clerk at low;\nrole boss at high;\n" +
			"field a int at low by clerk by boss valid 0 <= a says \"negative\" must true;\nfield s int at high by boss;\nfield sum int at auto is a + orelse(s, 0);\n",
		diamond,
		diamond + "field a int at low;field b int at l is a;field c int at r when a;field d int at top valid b + c says \"\" must a + d;",
		diamond + "field d int at top is c + b;field c int at auto is b;field b int at l is a;field a int at low;",
		diamond + "field a int at auto is b;field b int at auto is c;field c int at top;field d int at top is a;",
		diamond + "field a int at auto valid b says \"\";field b int at auto must a;",
		diamond + "field a int at l valid b says \"\" must a;field b int at l valid a says \"\" must b;",
		labelled(chainUp(32)) + "field a int at l31 is b;field b int at l0;field c int at l16 when b;",
		"label p;" + fullForm(func(int) string { return "" }),
		labelled(cube(5)) + fullForm(func(i int) string { return fmt.Sprint("must f", (i*7)%200) }),
	} {
		wantDiag(t, text, 0, 0)
	}
}

// Every pair of labels of the diamond, in each of the four rules, with the field that is read declared or auto.
func TestCheckReadsTooHigh(t *testing.T) {
	names := []string{low: "low", left: "l", right: "r", top: "top"}
	below := map[[2]int]bool{{low, left}: true, {low, right}: true, {low, top}: true, {left, top}: true, {right, top}: true}
	for own, name := range names {
		for read, other := range names {
			code, first, second := 16, 8, 9
			if own == read || below[[2]int{read, own}] {
				code, first, second = 0, 0, 0
			}
			for _, rule := range []string{"is b", "when b", `valid b says ""`, "must b", "is 1 when a0 must a0 + b", `is a0 valid 1 = b says "" must a0`} {
				a := "field a int at " + name + " " + rule + ";"
				a0 := "field a0 int at low;"
				wantDiag(t, diamond+a+"field b int at "+other+";"+a0, code, first)
				wantDiag(t, diamond+"field b int at "+other+";"+a+a0, code, second)
				wantDiag(t, diamond+a+"field b int at auto is c;field c int at "+other+";"+a0, code, first)
				wantDiag(t, diamond+a+"field b int at auto valid c says \"\";field c int at auto must d + b;field d int at "+other+";"+a0, code, first)
			}
		}
	}
}

func TestCheckLowestThatReadsTooHigh(t *testing.T) {
	wantDiag(t, diamond+"field a int at low;field b int at low is d;field c int at low is d;field d int at top;", 16, 9)
	wantDiag(t, diamond+"field d int at top;field c int at l must d;field b int at low is d;", 16, 9)
	wantDiag(t, diamond+"field a int at top;field b int at top is a;field c int at auto is a;field d int at low must c;", 16, 11)
	wantDiag(t, diamond+"role p at low;role q at top;field a int at top by p;field b int at low must a;", 16, 11)
	// an auto field never reads too high, nor does what is beyond a declared label count
	wantDiag(t, diamond+"field a int at auto is b;field b int at top;", 0, 0)
	wantDiag(t, diamond+"field a int at l is b;field b int at auto is c;field c int at low is d;field d int at top;", 16, 10)
	// where a field reads itself or in a circle its own label is the one that counts
	wantDiag(t, diamond+`field a int at l valid a says "" must a;`, 0, 0)
	wantDiag(t, diamond+`field a int at low valid b says "";field b int at auto must a + c;field c int at l;`, 16, 8)
	wantDiag(t, diamond+`field a int at l valid b says "";field b int at auto must a + c;field c int at low;`, 0, 0)
	// the first field of the two whose labels lie apart
	wantDiag(t, diamond+`field a int at l valid b says "";field b int at r valid a says "";`, 16, 8)
	wantDiag(t, diamond+"field a int at l is b + c;field b int at low;field c int at r;", 16, 8)
	wantDiag(t, diamond+"field a int at l is c + b;field b int at low;field c int at r;", 16, 8)
	var last strings.Builder
	last.WriteString("label low;label high;below high low;")
	for i := range 198 {
		fmt.Fprintf(&last, "field f%d int at low;", i)
	}
	wantDiag(t, last.String()+"field y int at high;field z int at high is f7;", 16, 202)
	wantDiag(t, last.String()+"field y int at high;field z int at low is y;", 0, 0)
}

func TestCheckCycles(t *testing.T) {
	one := "label p;"
	for _, c := range []struct {
		fields string
		place  int
	}{
		{fieldsOf("is a"), 0},
		{fieldsOf("when a"), 0},
		{fieldsOf("", "is b"), 1},
		{fieldsOf("is b", "is a"), 0},
		{fieldsOf("when b", "is a"), 0},
		{fieldsOf("is b", "when a"), 0},
		{fieldsOf("when b", "when a"), 0},
		{fieldsOf("", "is c", "is d", "is b"), 1},
		// fed by a cycle, but not on it
		{fieldsOf("is b", "is b"), 1},
		{fieldsOf("is b", "is c", "is b"), 1},
		{fieldsOf("is b", "is c", "is d", "is c"), 2},
		{fieldsOf("is e", "when e", "is d", "is d", "is d"), 3},
		// only feeds a cycle
		{fieldsOf("", "is a + b"), 1},
		{fieldsOf("", "is a", "is b + d", "when c"), 2},
		{fieldsOf("is b", "", "is c + a"), 2},
		// fed by one cycle, and feeds another
		{fieldsOf("is b", "is c", "is c", "is a + d"), 2},
		{fieldsOf("is d", "is a + c", "is b", "is d"), 1},
		// of two cycles the one with the lowest field
		{fieldsOf("", "is d", "is c", "is b"), 1},
		{fieldsOf("", "is b", "is d", "is c"), 1},
		{fieldsOf("", "", "is e", "is d", "is c"), 2},
		// two cycles through one field
		{fieldsOf("", "is c", "is b + d", "is c"), 1},
		{fieldsOf("", "is d", "is d", "is b + c"), 1},
	} {
		wantDiag(t, one+c.fields, 15, 1+c.place)
		wantDiag(t, diamond+"role r at top;role s at low;"+c.fields, 15, 10+c.place)
	}
	wantDiag(t, one+fullForm(func(i int) string { return fmt.Sprint("is f", (i+1)%200) }), 15, 1)
	wantDiag(t, one+fullForm(func(i int) string { return fmt.Sprint("when f", min(i+1, 199)) }), 15, 200)
	wantDiag(t, one+fullForm(func(i int) string { return fmt.Sprint("is f", max(i-1, 0)) }), 15, 1)
	wantDiag(t, one+fullForm(func(i int) string {
		if i < 150 {
			return fmt.Sprint("is f", i+1)
		}
		return fmt.Sprint("is f", 150+(i+9)%50)
	}), 15, 151)
	// Valid and Must rules make no cycles
	wantDiag(t, one+fieldsOf(`valid a says "" must a`), 0, 0)
	wantDiag(t, one+fieldsOf("must b", `valid a says ""`), 0, 0)
	wantDiag(t, one+fieldsOf("is b must a", "must a"), 0, 0)
}

func TestCheckNoLattice(t *testing.T) {
	for code, heads := range noLattices() {
		for _, head := range heads {
			wantDiag(t, head, 10+code, 0)
			wantDiag(t, head+fieldsOf("", "is a"), 10+code, 0)
		}
	}
	wantDiag(t, "", 11, 0)
	wantDiag(t, " \n", 11, 0)
}

func TestCheckFormsNotValid(t *testing.T) {
	for what, f := range notValidForms(t) {
		wantNotSound(t, what, f, impl.Diag{Code: 20})
	}
	wantNotSound(t, "the empty form", impl.Form{}, impl.Diag{Code: 11})
}

// In each form two or more codes meet, and the first of them is given.
func TestCheckTwoCodes(t *testing.T) {
	twice := func(text string) impl.Form {
		f := formOf(t, text)
		f.Fields = append(f.Fields, impl.Field{Name: "z", Label: -1})
		return f
	}
	cycle := fieldsOf("is a")
	falling := func(low string, high string) string {
		return "field h int at " + high + ";field g int at " + low + " is h;"
	}
	for code, heads := range noLattices() {
		for _, head := range heads {
			wantNotSound(t, "not valid, and no lattice", twice(head), impl.Diag{Code: 20})
			wantDiag(t, head+cycle, 10+code, 0)
			if code != 1 {
				names := strings.Fields(strings.ReplaceAll(strings.ReplaceAll(head, "label", ""), ";", " "))
				wantDiag(t, head+falling(names[0], names[1]), 10+code, 0)
				wantDiag(t, head+falling(names[1], names[0]), 10+code, 0)
				wantDiag(t, head+cycle+falling(names[0], names[1]), 10+code, 0)
			}
		}
	}
	wantNotSound(t, "not valid, and a cycle", twice("label p;"+cycle), impl.Diag{Code: 20})
	wantNotSound(t, "not valid, and a flow down", twice(diamond+falling("low", "top")), impl.Diag{Code: 20})
	wantNotSound(t, "not valid, and both", twice(diamond+cycle+falling("low", "top")), impl.Diag{Code: 20})
	wantDiag(t, diamond+cycle+falling("low", "top"), 15, 8)
	wantDiag(t, diamond+falling("low", "top")+cycle, 15, 10)
	wantDiag(t, diamond+"field a int at low is b;field b int at top is a;", 15, 8)
	wantDiag(t, diamond+"field a int at low is b;field b int at top is c;field c int at top is b;", 15, 9)
	// of the codes of a lattice
	wantDiag(t, "label a;label b;label c;below a b;below b a;", 12, 0)
	wantDiag(t, "label a;label b;label c;label d;below a b;below b a;below c a;below d a;", 12, 0)
	wantDiag(t, "label a;label b;", 13, 0)
	wantDiag(t, labelled(crossed()), 13, 0)
}

// The texts that ParseForm refuses, each with its code and its place.
func TestLoadRefusesAsParseForm(t *testing.T) {
	for _, c := range []struct {
		text     string
		code, at int
	}{
		{strings.Repeat(" ", 30001), 1, 0},
		{"label a;_", 2, 8},
		{"label a;field x int at a valid x says \"n;", 2, 38},
		{"label a;label", 3, 1},
		{"label a;;", 3, 1},
		{"label a;field x int at a;label b;", 4, 2},
		{repeated("label l#;", 33), 5, 32},
		{"label a;label a;", 6, 1},
		{"label a;field x int at b;", 7, 1},
		{"label a;field x int at a is " + tooDeep + ";", 8, 1},
		{"label a;field x int at a is y;", 9, 1},
		{strings.NewReplacer(" & ", "&", ";\n", ";").Replace(plainCanonical(roomy(30001))), 10, 0},
		// what CheckForm would refuse comes after it
		{"label a;label b;field x int at a is x;field x int at b;", 6, 3},
		{"field x int at auto is x;field y int at auto is z;", 9, 1},
		{"label a;label b;below a b;below b a;below", 3, 4},
		{diamond + "field a int at low is b;field b int at top;field c int at none;", 7, 10},
	} {
		wantFault(t, c.text, c.code, c.at)
		wantDiag(t, c.text, c.code, c.at)
	}
}

func TestLoadAnswersAreNew(t *testing.T) {
	text := "label p;label q;below p q;role r at p;field a int at p by r;field b int at q is a + a;"
	first, _ := impl.Load(text)
	want := tidy(first)
	first.Labels[0], first.Below[0], first.Fields[0].By[0], first.Fields[1].Is[0] = "z", impl.Pair{Lo: 9, Hi: 9}, 9, field("z")
	second, d := impl.Load(text)
	if d != (impl.Diag{}) || !sameForm(second, want) {
		t.Errorf("the second answer is %v with %v", second, d)
	}
}

// smallLattices and the orders that are none are what the mixed forms take their labels from.
var smallLattices = []impl.Order{{N: 1}, orderOf(2, 0, 1), orderOf(2, 1, 0), chainUp(3), chainDown(4), orderOf(4, 0, 1, 0, 2, 1, 3, 2, 3), orderOf(4, 3, 1, 3, 0, 1, 2, 0, 2),
	orderOf(5, 0, 1, 1, 2, 2, 4, 0, 3, 3, 4), fan(5), fan(6)}

var notLattices = []impl.Order{{N: 0}, {N: 2}, orderOf(2, 0, 1, 1, 0), orderOf(3, 0, 1, 0, 2), orderOf(3, 0, 2, 1, 2), crossed()}

// mixedFlow is a valid form over an order with some fields. Most of what its Is and When rules read stands on the left in a mixed row of the fields, so that many of the forms have no cycle.
func mixedFlow(m *mixer, o impl.Order, count int) impl.Form {
	f := impl.Form{Below: slices.Clone(o.Pairs)}
	for a := range o.N {
		f.Labels = append(f.Labels, fmt.Sprint("l", a))
	}
	for i := range m.below(3) {
		if o.N > 0 {
			f.Roles = append(f.Roles, impl.Role{Name: fmt.Sprint("r", i), Label: m.below(o.N)})
		}
	}
	row, names := mixedNames(m, count), numbered(0, count)
	often := 1 + m.below(3)
	for k := range count {
		near := []string{}
		for j := range count {
			if row[j] < row[k] || m.below(12*count) == 0 {
				near = append(near, names[j])
			}
		}
		x := impl.Field{Name: names[k], Type: 1 + m.below(3), Label: -1, Is: mixedRule(m, near, often), When: mixedRule(m, near, often), Valid: mixedRule(m, names, often), Must: mixedRule(m, names, often)}
		if o.N > 0 && m.below(2) == 0 {
			x.Label = m.below(o.N)
		}
		f.Fields = append(f.Fields, x)
	}
	return f
}

// mixedRule is often no rule at all.
func mixedRule(m *mixer, names []string, often int) []impl.Node {
	if len(names) == 0 || m.below(1+often) > 0 {
		return nil
	}
	return mixedTree(m, names, m.below(4)).postfix()
}

func TestFlowMixed(t *testing.T) {
	m := mixer(42)
	seen := map[int]int{}
	for range 6000 {
		o := smallLattices[m.below(len(smallLattices))]
		if m.below(5) == 0 {
			o = notLattices[m.below(len(notLattices))]
		}
		f := mixedFlow(&m, o, m.below(9))
		if m.below(8) == 0 {
			spoil(&m, &f)
		}
		d := wantFlow(t, f)
		seen[d.Code]++
		if d.Code != 20 && m.below(4) == 0 {
			wantLoadAsPlain(t, plainCanonical(f))
		}
	}
	for _, code := range []int{0, 11, 12, 13, 14, 15, 16, 20} {
		if seen[code] < 100 {
			t.Errorf("codes seen: %v", seen)
		}
	}
}

func TestFlowMixedGreat(t *testing.T) {
	m := mixer(43)
	seen := map[int]int{}
	for range 60 {
		o := mixedOrder(&m)
		if _, code := plainBuild(o); code != 0 || len(o.Pairs) > impl.MaxPairs {
			o = []impl.Order{chainUp(32), chainDown(32), cube(5), fan(32)}[m.below(4)]
		}
		f := mixedFlow(&m, o, 20+m.below(60))
		seen[wantFlow(t, f).Code]++
	}
	if seen[15] == 0 || seen[16] == 0 {
		t.Errorf("codes seen: %v", seen)
	}
}

// Texts near a mixed form, held against ParseForm's and CheckForm's words one after the other.
func TestLoadNearTexts(t *testing.T) {
	m := mixer(44)
	seen := map[int]int{}
	for range 6000 {
		f := mixedFlow(&m, smallLattices[m.below(len(smallLattices))], m.below(6))
		tokens, _ := plainTokens(plainCanonical(f))
		if m.below(3) > 0 {
			tokens = changed(&m, tokens)
		}
		seen[wantLoadAsPlain(t, spaced(&m, tokens)).Code]++
	}
	for _, code := range []int{0, 3, 4, 7, 9, 15, 16} {
		if seen[code] < 30 {
			t.Errorf("codes seen: %v", seen)
		}
	}
}
