package tests

import (
	"fmt"
	"math"
	"slices"
	"strings"
	"testing"

	"loop.example/s0011/impl"
)

// wantPrintedForm is promise 7 for one valid form.
func wantPrintedForm(t *testing.T, f impl.Form, want string) {
	t.Helper()
	kept := tidy(f)
	if !impl.ValidForm(f) {
		t.Errorf("not valid: %.300v", f)
	}
	got := impl.PrintForm(f)
	if got != want {
		t.Errorf("printed as %.600q, want %.600q", got, want)
	}
	back, d := impl.ParseForm(got)
	if d != (impl.Diag{}) || !sameForm(back, f) {
		t.Errorf("%.600q is read back as %.300v with %v", got, back, d)
	}
	if !sameForm(f, kept) {
		t.Errorf("the form was changed: %.300v", f)
	}
}

func wantNotValidForm(t *testing.T, what string, f impl.Form) {
	t.Helper()
	if impl.ValidForm(f) {
		t.Errorf("valid: %s", what)
	}
	if text := impl.PrintForm(f); text != "" {
		t.Errorf("%s: printed as %.300q", what, text)
	}
}

func TestPrintFormWrittenOut(t *testing.T) {
	wantPrintedForm(t, impl.Form{}, "")
	wantPrintedForm(t, impl.Form{Labels: []string{}, Below: []impl.Pair{}, Roles: []impl.Role{}, Fields: []impl.Field{}}, "")
	wantPrintedForm(t, impl.Form{Labels: []string{"low", "high"}, Below: pairsOf(0, 1, 1, 1)}, "label low;\nlabel high;\nbelow low high;\nbelow high high;\n")
	wantPrintedForm(t, impl.Form{Labels: []string{"low", "high"}, Roles: []impl.Role{{Name: "clerk"}, {Name: "low", Label: 1}}}, "label low;\nlabel high;\nrole clerk at low;\nrole low at high;\n")
	a := impl.Field{Name: "a", Type: impl.KInt, Label: 0, By: []int{0, 1}}
	wantPrintedForm(t, impl.Form{Labels: []string{"low"}, Roles: []impl.Role{{Name: "clerk"}, {Name: "boss"}}, Fields: []impl.Field{a}},
		"label low;\nrole clerk at low;\nrole boss at low;\nfield a int at low by clerk by boss;\n")
	sum := impl.Field{Name: "sum", Type: impl.KInt, Label: -1, Is: []impl.Node{field("a"), field("b"), operator(impl.OpAdd)}, When: []impl.Node{field("hide"), operator(impl.OpNot)},
		Valid: []impl.Node{constant(whole(0)), field("sum"), operator(impl.OpLe)}, Says: "too small", Must: []impl.Node{constant(yes())}}
	others := []impl.Field{{Name: "a", Type: impl.KInt, Label: -1}, {Name: "b", Type: impl.KText, Label: -1}, {Name: "hide", Type: impl.KBool, Label: -1}}
	wantPrintedForm(t, impl.Form{Fields: append([]impl.Field{sum}, others...)},
		"field sum int at auto is a + b when not hide valid 0 <= sum says \"too small\" must true;\nfield a int at auto;\nfield b text at auto;\nfield hide bool at auto;\n")
	silent := impl.Field{Name: "x", Type: impl.KText, Label: -1, Valid: []impl.Node{field("x")}}
	wantPrintedForm(t, impl.Form{Fields: []impl.Field{silent}}, "field x text at auto valid x says \"\";\n")
}

// Every part of a field statement, there and absent.
func TestPrintFormEveryPartOfAField(t *testing.T) {
	roles := []impl.Role{{Name: "p"}, {Name: "q", Label: 1}}
	for parts := range 32 {
		for kind := 1; kind <= 3; kind++ {
			for label := -1; label < 2; label++ {
				x := impl.Field{Name: "x", Type: kind, Label: label}
				text := fmt.Sprintf("label a;\nlabel b;\nrole p at a;\nrole q at b;\nfield x %s at %s", []string{1: "int", 2: "bool", 3: "text"}[kind], []string{"auto", "a", "b"}[label+1])
				if parts&1 > 0 {
					x.By = []int{1, 0}
					text += " by q by p"
				}
				if parts&2 > 0 {
					x.Is = []impl.Node{constant(whole(1))}
					text += " is 1"
				}
				if parts&4 > 0 {
					x.When = []impl.Node{field("x"), operator(impl.OpNot)}
					text += " when not x"
				}
				if parts&8 > 0 {
					x.Valid = []impl.Node{constant(no())}
					x.Says = "it; is \\"
					text += " valid false says \"it; is \\\""
				}
				if parts&16 > 0 {
					x.Must = []impl.Node{constant(blank())}
					text += " must blank"
				}
				f := impl.Form{Labels: []string{"a", "b"}, Roles: roles, Fields: []impl.Field{x}}
				if parts&3 == 3 {
					wantNotValidForm(t, "by and is", f)
					wantFault(t, text+";", 3, 4)
				} else {
					wantPrintedForm(t, f, text+";\n")
				}
			}
		}
	}
}

func TestPrintFormMixed(t *testing.T) {
	m := mixer(11)
	for range 3000 {
		f := mixedForm(&m)
		wantPrintedForm(t, f, plainCanonical(f))
	}
}

// Promise 7, its second half: a form that was read is printed as its canonical text, however it was written.
func TestPrintFormOfWhatWasRead(t *testing.T) {
	m := mixer(12)
	read := 0
	for range 4000 {
		tokens, _ := plainTokens(plainCanonical(mixedForm(&m)))
		text := spaced(&m, changed(&m, tokens))
		f, d := impl.ParseForm(text)
		if d.Code != 0 {
			continue
		}
		read++
		wantPrintedForm(t, f, plainCanonical(f))
	}
	if read < 300 {
		t.Errorf("only %d forms were read", read)
	}
	f, _ := impl.ParseForm("field x int at auto is((x+1))-(2*x)valid(x)says\"n\"must(-(-x));")
	wantPrintedForm(t, f, "field x int at auto is x + 1 - 2 * x valid x says \"n\" must --x;\n")
}

func TestValidFormCounts(t *testing.T) {
	names := func(prefix string, count int) []string {
		out := []string{}
		for i := range count {
			out = append(out, fmt.Sprint(prefix, i))
		}
		return out
	}
	roles := func(count int) []impl.Role {
		out := []impl.Role{}
		for _, name := range names("r", count) {
			out = append(out, impl.Role{Name: name})
		}
		return out
	}
	fields := func(count int) []impl.Field {
		out := []impl.Field{}
		for _, name := range names("f", count) {
			out = append(out, impl.Field{Name: name, Type: 1, Label: -1})
		}
		return out
	}
	pairs := slices.Repeat(pairsOf(0, 0), 257)
	full := impl.Form{Labels: names("l", 32), Below: pairs[:256], Roles: roles(64), Fields: fields(200)}
	wantPrintedForm(t, full, plainCanonical(full))
	one := []string{"a"}
	for what, f := range map[string]impl.Form{
		"33 labels":   {Labels: names("l", 33)},
		"257 pairs":   {Labels: one, Below: pairs},
		"65 roles":    {Labels: one, Roles: roles(65)},
		"201 fields":  {Fields: fields(201)},
		"many labels": {Labels: names("l", 5000)},
	} {
		wantNotValidForm(t, what, f)
	}
}

func TestValidFormNames(t *testing.T) {
	for _, name := range []string{"a", "z9_", "abcdefghijklmnop", "if", "min", "iserr"} {
		f := impl.Form{Labels: []string{name}, Roles: []impl.Role{{Name: name}}, Fields: []impl.Field{{Name: name, Type: 1}}}
		wantPrintedForm(t, f, plainCanonical(f))
	}
	wrong := append([]string{"", " ", "A", "aB", "1", "1a", "_", "_a", "a b", "a;", " a", "a ", "a\n", "é", "a\x00", "abcdefghijklmnopq", long(100), `"a"`}, plainReserved...)
	for _, name := range wrong {
		wantNotValidForm(t, "label "+name, impl.Form{Labels: []string{name}})
		wantNotValidForm(t, "second label "+name, impl.Form{Labels: []string{"a", name}})
		wantNotValidForm(t, "role "+name, impl.Form{Labels: []string{"a"}, Roles: []impl.Role{{Name: "r"}, {Name: name}}})
		wantNotValidForm(t, "field "+name, impl.Form{Labels: []string{"a"}, Fields: []impl.Field{{Name: "x", Type: 1}, {Name: name, Type: 1}}})
	}
	wantNotValidForm(t, "a label twice", impl.Form{Labels: []string{"a", "b", "a"}})
	wantNotValidForm(t, "a role twice", impl.Form{Labels: []string{"a"}, Roles: []impl.Role{{Name: "r"}, {Name: "s"}, {Name: "r"}}})
	wantNotValidForm(t, "a field twice", impl.Form{Fields: []impl.Field{{Name: "x", Type: 1, Label: -1}, {Name: "y", Type: 1, Label: -1}, {Name: "x", Type: 2, Label: -1}}})
}

func TestValidFormNumbers(t *testing.T) {
	labels := []string{"a", "b"}
	roles := []impl.Role{{Name: "p"}, {Name: "q"}}
	for _, n := range []int{-2, -1, 0, 1, 2, 3, math.MaxInt, math.MinInt} {
		good := n == 0 || n == 1
		for what, f := range map[string]impl.Form{
			"Lo":    {Labels: labels, Below: []impl.Pair{{Lo: 0, Hi: 0}, {Lo: n, Hi: 1}}},
			"Hi":    {Labels: labels, Below: []impl.Pair{{Lo: 1, Hi: 0}, {Lo: 0, Hi: n}}},
			"role":  {Labels: labels, Roles: []impl.Role{{Name: "p"}, {Name: "q", Label: n}}},
			"by":    {Labels: labels, Roles: roles, Fields: []impl.Field{{Name: "x", Type: 1, By: []int{n}}}},
			"field": {Labels: labels, Fields: []impl.Field{{Name: "x", Type: 1, Label: n}}},
			"type":  {Labels: labels, Fields: []impl.Field{{Name: "x", Type: n}}},
		} {
			if good && what != "type" || what == "field" && n == -1 || what == "type" && n >= 1 && n <= 3 {
				wantPrintedForm(t, f, plainCanonical(f))
			} else {
				wantNotValidForm(t, fmt.Sprint(what, " ", n), f)
			}
		}
	}
	wantNotValidForm(t, "a pair and no label", impl.Form{Below: pairsOf(0, 0)})
	wantNotValidForm(t, "a role and no label", impl.Form{Roles: []impl.Role{{Name: "r"}}})
	wantNotValidForm(t, "a field and no label", impl.Form{Fields: []impl.Field{{Name: "x", Type: 1}}})
	for _, by := range [][]int{{0, 0}, {0, 1, 0}, {1, 1}, {0, 2}, {0, -1}, make([]int, 100000)} {
		wantNotValidForm(t, fmt.Sprintf("by %.20v", by), impl.Form{Labels: labels, Roles: roles, Fields: []impl.Field{{Name: "x", Type: 1, By: by}}})
	}
}

func TestValidFormRules(t *testing.T) {
	x := []impl.Node{field("x")}
	wrongRules := [][]impl.Node{
		{operator(impl.OpNeg)}, {constant(whole(1)), constant(whole(2))}, {constant(whole(-1))}, {constant(fault(1))}, {field("is")}, {field("y")}, {field("x"), field("y"), operator(impl.OpAdd)},
		{{Op: impl.OpField, Name: "x", Val: whole(1)}}, {{Op: impl.OpConst, Name: "x"}}, {constant(words("\n"))},
		wrapped(impl.OpNeg, 64, leaf(field("x"))).postfix(), slices.Repeat(x, 1001), texted(4001).postfix(),
	}
	put := []func(f *impl.Field, rule []impl.Node){
		func(f *impl.Field, rule []impl.Node) { f.Is = rule },
		func(f *impl.Field, rule []impl.Node) { f.When = rule },
		func(f *impl.Field, rule []impl.Node) { f.Valid = rule },
		func(f *impl.Field, rule []impl.Node) { f.Must = rule },
	}
	for place, rule := range put {
		good := impl.Field{Name: "x", Type: 1, Label: -1}
		rule(&good, x)
		f := impl.Form{Fields: []impl.Field{good}}
		wantPrintedForm(t, f, plainCanonical(f))
		rule(&good, texted(4000).postfix())
		f = impl.Form{Fields: []impl.Field{good, {Name: "y", Type: 1, Label: -1}}}
		wantPrintedForm(t, f, plainCanonical(f))
		for i, nodes := range wrongRules {
			bad := impl.Field{Name: "x", Type: 1, Label: -1}
			rule(&bad, nodes)
			wantNotValidForm(t, fmt.Sprintf("rule %d, list %d", place, i), impl.Form{Fields: []impl.Field{bad}})
			bad.Name = "z"
			wantNotValidForm(t, fmt.Sprintf("second field, rule %d, list %d", place, i), impl.Form{Fields: []impl.Field{{Name: "x", Type: 1, Label: -1}, bad}})
		}
	}
}

func TestValidFormSays(t *testing.T) {
	x := []impl.Node{field("x")}
	says := func(text string, valid []impl.Node) impl.Form {
		return impl.Form{Fields: []impl.Field{{Name: "x", Type: 1, Label: -1, Valid: valid, Says: text}}}
	}
	for _, text := range []string{"", " ", "a", "; \\ (", "must", long(1000)} {
		wantPrintedForm(t, says(text, x), plainCanonical(says(text, x)))
		if text != "" {
			wantNotValidForm(t, "says without valid", says(text, nil))
		}
	}
	for _, text := range []string{"\"", "a\"b", "\n", "\t", "\x1f", "\x7f", "\x80", "é", long(1001), long(100000), long(999) + "\n"} {
		wantNotValidForm(t, fmt.Sprintf("says %.20q", text), says(text, x))
	}
}

// A mixed form with one part changed, held against the clauses.
func TestValidFormNearForms(t *testing.T) {
	m := mixer(13)
	valid, others := 0, 0
	for range 20000 {
		f := mixedForm(&m)
		spoil(&m, &f)
		if plainValidForm(f) {
			valid++
			wantPrintedForm(t, f, plainCanonical(f))
		} else {
			others++
			wantNotValidForm(t, fmt.Sprintf("%+v", f), f)
		}
	}
	if valid < 1000 || others < 1000 {
		t.Errorf("%d valid forms, %d others", valid, others)
	}
}

func spoil(m *mixer, f *impl.Form) {
	name := append([]string{"", "is", "A"}, someNames...)[m.below(len(someNames)+3)]
	number := m.below(6) - 2
	if len(f.Labels) > 0 && m.below(4) == 0 {
		f.Labels[m.below(len(f.Labels))] = name
	}
	if len(f.Below) > 0 && m.below(4) == 0 {
		f.Below[m.below(len(f.Below))].Hi = number
	}
	if len(f.Roles) > 0 && m.below(4) == 0 {
		f.Roles[m.below(len(f.Roles))] = impl.Role{Name: name, Label: max(number, 0)}
	}
	if len(f.Fields) == 0 {
		return
	}
	x := &f.Fields[m.below(len(f.Fields))]
	switch m.below(9) {
	case 0:
		x.Name = name
	case 1:
		x.Type = number
	case 2:
		x.Label = number
	case 3:
		x.By = append(x.By, number)
	case 4:
		x.Is = append(x.Is, operator(m.below(27)))
	case 5:
		x.When = []impl.Node{field(name)}
	case 6:
		x.Says = name
	case 7:
		x.Valid = nil
	case 8:
		x.Must = append(x.Must, x.Must...)
	}
}

func TestFormAnswersAreNew(t *testing.T) {
	text := "label a; label b; below a b; role r at a; role s at b; field x int at a by r by s when x valid x says \"n\" must x; field y int at a is x + y;"
	first, _ := impl.ParseForm(text)
	want := tidy(first)
	first.Labels[0], first.Below[0], first.Roles[0] = "z", impl.Pair{Lo: 9, Hi: 9}, impl.Role{Name: "z"}
	x := &first.Fields[0]
	x.By[0], x.When[0], x.Valid[0], x.Must[0] = 9, field("z"), field("z"), field("z")
	first.Fields[1].Is[0] = field("z")
	second, d := impl.ParseForm(text)
	if d.Code != 0 || !sameForm(second, want) {
		t.Errorf("the second answer is %v with %v", second, d)
	}
	// no list of an answer runs on into another
	y := &second.Fields[0]
	y.When = append(y.When, field("q"))
	y.Valid = append(y.Valid, field("q"))
	y.By = append(y.By, 7)
	second.Labels = append(second.Labels, "q")
	if y.Valid[0] != field("x") || y.Must[0] != field("x") || second.Fields[1].Is[0] != field("x") || second.Roles[0].Name != "r" {
		t.Errorf("lists are shared: %v", second)
	}
	if strings.Contains(impl.PrintForm(want), "q") {
		t.Errorf("the copy was changed")
	}
}
