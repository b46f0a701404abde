package tests

import (
	"fmt"
	"math"
	"slices"
	"strings"
	"testing"

	"loop.example/s0011/impl"
)

// soundText is asked only of texts that Load accepts.
func soundText(t *testing.T, text string) impl.Form {
	t.Helper()
	f, d := impl.Load(text)
	if d.Code != 0 {
		t.Fatalf("%.2000q: %v", text, d)
	}
	return f
}

// cell has a letter for each mark that is set: r for Rel, o for Ok, m for Must.
func cell(v impl.Value, marks string) impl.Cell {
	return impl.Cell{Val: v, Rel: strings.Contains(marks, "r"), Ok: strings.Contains(marks, "o"), Must: strings.Contains(marks, "m")}
}

func wantSolved(t *testing.T, text string, inputs []impl.Value, want ...impl.Cell) {
	t.Helper()
	got := impl.Solve(soundText(t, text), inputs)
	if !slices.Equal(got, want) {
		t.Errorf("%.2000q with %v:\n%v, want\n%v", text, inputs, got, want)
	}
}

func wantUpdated(t *testing.T, text string, inputs []impl.Value, cells []impl.Cell, k int, v impl.Value, want ...impl.Cell) {
	t.Helper()
	got := impl.Update(soundText(t, text), inputs, cells, k, v)
	if !slices.Equal(got, want) {
		t.Errorf("%.2000q with %v, field %d becomes %v:\n%v, want\n%v", text, inputs, k, v, got, want)
	}
}

// givers has expressions with what they give: every kind of value, and every error.
func givers() map[string]impl.Value {
	return map[string]impl.Value{
		"true": yes(), "false": no(), "1 = 1": yes(), "not true": no(), "blank": blank(), "blank + 1": blank(), "7": whole(7), "0": whole(0), "1": whole(1), "-1": whole(-1), `"t"`: words("t"), `""`: words(""), `"true"`: words("true"),
		`1 + ""`: fault(impl.ErrType), "9223372036854775807 + 1": fault(impl.ErrOverflow), "1 / 0": fault(impl.ErrDivide), `"` + long(1000) + `" & "q"`: fault(impl.ErrLong), `num("x")`: fault(impl.ErrNumber),
	}
}

// asType is what a calculated field of the type makes of what its rule gives.
func asType(v impl.Value, kind int) impl.Value {
	if v.Kind == impl.KBlank || v.Kind == impl.KErr || v.Kind == kind {
		return v
	}
	return fault(impl.ErrType)
}

func TestSolveEachRuleWithEachKind(t *testing.T) {
	for rule, v := range givers() {
		text := fmt.Sprintf(`label p;field i int at p is %[1]s;field b bool at p is %[1]s;field s text at p is %[1]s;`+
			`field w int at p when %[1]s;field v int at p valid %[1]s says "no";field m int at p must %[1]s;field n int at p;`, rule)
		inputs := []impl.Value{{}, {}, {}, whole(3), whole(4), whole(5), {}}
		when, valid, must := "o", "r", "ro"
		if v == yes() {
			when, valid, must = "ro", "ro", "rom"
		}
		if v == blank() {
			valid = "ro"
		}
		wantSolved(t, text, inputs, cell(asType(v, impl.KInt), "ro"), cell(asType(v, impl.KBool), "ro"), cell(asType(v, impl.KText), "ro"),
			cell(whole(3), when), cell(whole(4), valid), cell(whole(5), must), cell(blank(), "ro"))
	}
}

// The same, where the rules read what an input field holds.
func TestSolveEachRuleReadsAField(t *testing.T) {
	for kind, values := range map[string][]impl.Value{"int": {blank(), whole(0), whole(1), whole(-7)}, "bool": {blank(), yes(), no()}, "text": {blank(), words(""), words("true")}} {
		for _, v := range values {
			text := fmt.Sprintf(`label p;field i int at p is x;field b bool at p is x;field s text at p is x;field w int at p when x;field v int at p valid x says "no";field m int at p must x;field x %s at p;`, kind)
			when, valid, must := "o", "r", "ro"
			if v == yes() {
				when, valid, must = "ro", "ro", "rom"
			}
			if v == blank() {
				valid = "ro"
			}
			inputs := []impl.Value{{}, {}, {}, {}, {}, {}, v}
			want := []impl.Cell{cell(asType(v, impl.KInt), "ro"), cell(asType(v, impl.KBool), "ro"), cell(asType(v, impl.KText), "ro"), cell(blank(), when), cell(blank(), valid), cell(blank(), must), cell(v, "ro")}
			wantSolved(t, text, inputs, want...)
			for _, before := range values {
				given := append(slices.Clone(inputs[:6]), before)
				wantUpdated(t, text, given, impl.Solve(soundText(t, text), given), 6, v, want...)
			}
		}
	}
}

// A field that is not relevant keeps its Val, its Ok and its Must, and its readers see blank, itself among them.
func TestSolveNotRelevant(t *testing.T) {
	const text = `label p;field on bool at p;field x int at p when on;field y int at p is x;field z int at p is 5 when on;field w int at p is orelse(z, 9);` +
		`field v int at p when on valid v = 1 says "no" must isblank(v);field u int at p is x when isblank(x);field e int at p is 1 / 0 when not on;field d int at p is e;`
	off := []impl.Value{no(), whole(3), {}, {}, {}, whole(4), {}, {}, {}}
	hidden := []impl.Cell{cell(no(), "ro"), cell(whole(3), "o"), cell(blank(), "ro"), cell(whole(5), "o"), cell(whole(9), "ro"), cell(whole(4), "om"), cell(blank(), "ro"), cell(fault(3), "ro"), cell(fault(3), "ro")}
	shown := []impl.Cell{cell(yes(), "ro"), cell(whole(3), "ro"), cell(whole(3), "ro"), cell(whole(5), "ro"), cell(whole(5), "ro"), cell(whole(4), "r"), cell(whole(3), "o"), cell(fault(3), "o"), cell(blank(), "ro")}
	wantSolved(t, text, off, hidden...)
	on := append([]impl.Value{yes()}, off[1:]...)
	wantSolved(t, text, on, shown...)
	wantUpdated(t, text, off, hidden, 0, yes(), shown...)
	wantUpdated(t, text, on, shown, 0, no(), hidden...)
	// relevance itself is read through a field that is not relevant
	const chain = "label p;field a bool at p;field b bool at p is true when a;field c bool at p is true when b;field d int at p when c;field e int at p when isblank(c);"
	wantSolved(t, chain, []impl.Value{no(), {}, {}, whole(1), whole(2)}, cell(no(), "ro"), cell(yes(), "o"), cell(yes(), "o"), cell(whole(1), "o"), cell(whole(2), "ro"))
	wantSolved(t, chain, []impl.Value{yes(), {}, {}, whole(1), whole(2)}, cell(yes(), "ro"), cell(yes(), "ro"), cell(yes(), "ro"), cell(whole(1), "ro"), cell(whole(2), "o"))
}

func TestSolveOwnFieldAndCircles(t *testing.T) {
	const own = `label p;field a int at p valid 0 <= a says "no" must isblank(a);field b int at p is a * 2 valid b < 10 says "no" must b = 4;`
	for _, c := range []struct {
		input impl.Value
		a, b  impl.Cell
	}{
		{blank(), cell(blank(), "rom"), cell(blank(), "ro")},
		{whole(-1), cell(whole(-1), "r"), cell(whole(-2), "ro")},
		{whole(2), cell(whole(2), "ro"), cell(whole(4), "rom")},
		{whole(5), cell(whole(5), "ro"), cell(whole(10), "r")},
		{whole(largest), cell(whole(largest), "ro"), cell(fault(2), "r")},
	} {
		wantSolved(t, own, []impl.Value{c.input, {}}, c.a, c.b)
	}
	const circle = `label p;field a int at p valid a < b says "no" must isblank(b);field b int at p valid a < b says "no" must not isblank(a);field c int at p must a = b;`
	pairs := map[[2]impl.Value][]impl.Cell{
		{blank(), blank()}:   {cell(blank(), "rom"), cell(blank(), "ro"), cell(blank(), "ro")},
		{whole(1), blank()}:  {cell(whole(1), "rom"), cell(blank(), "rom"), cell(blank(), "ro")},
		{whole(1), whole(2)}: {cell(whole(1), "ro"), cell(whole(2), "rom"), cell(blank(), "ro")},
		{whole(2), whole(2)}: {cell(whole(2), "r"), cell(whole(2), "rm"), cell(blank(), "rom")},
	}
	for from, before := range pairs {
		wantSolved(t, circle, []impl.Value{from[0], from[1], {}}, before...)
		for to, after := range pairs {
			inputs := []impl.Value{from[0], from[1], {}}
			half := impl.Update(soundText(t, circle), inputs, before, 0, to[0])
			inputs[0] = to[0]
			wantUpdated(t, circle, inputs, half, 1, to[1], after...)
		}
	}
}

// The order of calculation may be any; what a rule reads stands after it, or before.
func TestSolveOrder(t *testing.T) {
	wantSolved(t, "label p;field c int at p is b + 1;field b int at p is a + 1;field a int at p;", []impl.Value{{}, {}, whole(1)}, cell(whole(3), "ro"), cell(whole(2), "ro"), cell(whole(1), "ro"))
	wantSolved(t, "label p;field a int at p;field b int at p is a + 1;field c int at p is b + 1;", []impl.Value{whole(1), {}, {}}, cell(whole(1), "ro"), cell(whole(2), "ro"), cell(whole(3), "ro"))
	wantSolved(t, `label p;field a int at p valid c says "" must not c;field b bool at p;field c bool at p is b;`, []impl.Value{{}, no(), {}}, cell(blank(), "rm"), cell(no(), "ro"), cell(no(), "ro"))
	// the labels of fields, and the roles that may edit them, are nothing to their cells
	wantSolved(t, diamond+"role r at low;field a int at top;field b int at auto is a;field c int at l by r;", []impl.Value{whole(1), {}, whole(2)}, cell(whole(1), "ro"), cell(whole(1), "ro"), cell(whole(2), "ro"))
}

func TestSolveEdges(t *testing.T) {
	none := soundText(t, "label p;")
	if got := impl.Solve(none, nil); len(got) != 0 {
		t.Errorf("no fields: %v", got)
	}
	if got := impl.Update(none, nil, nil, 0, blank()); len(got) != 0 {
		t.Errorf("no fields: %v", got)
	}
	wantSolved(t, "label p;field a int at p;", []impl.Value{whole(1)}, cell(whole(1), "ro"))
	wantUpdated(t, "label p;field a int at p;", []impl.Value{whole(1)}, []impl.Cell{{}}, 0, whole(2), cell(whole(2), "ro"))
	wantSolved(t, "label p;field a int at p is 3;", []impl.Value{{}}, cell(whole(3), "ro"))
	for _, back := range []bool{false, true} {
		place := func(i int) int {
			if back {
				return impl.MaxFields - 1 - i
			}
			return i
		}
		text := "label p;" + fullForm(func(i int) string {
			if place(i) == 0 {
				return ""
			}
			return fmt.Sprintf(`is f%d + 1 valid f%[1]d < 150 says ""`, place(place(i)-1))
		})
		inputs := make([]impl.Value, impl.MaxFields)
		solved := func(n int64) []impl.Cell {
			cells := make([]impl.Cell, impl.MaxFields)
			for i := range impl.MaxFields {
				marks := "ro"
				if i > 0 && n+int64(i)-1 >= 150 {
					marks = "r"
				}
				cells[place(i)] = cell(whole(n+int64(i)), marks)
			}
			return cells
		}
		inputs[place(0)] = whole(7)
		wantSolved(t, text, inputs, solved(7)...)
		wantUpdated(t, text, inputs, solved(7), place(0), whole(-40), solved(-40)...)
	}
}

// notSoundForms has forms of every code of CheckForm but 0.
func notSoundForms(t *testing.T) map[string]impl.Form {
	out := notValidForms(t)
	for code, heads := range noLattices() {
		for i, head := range heads {
			out[fmt.Sprint("code ", 10+code, ", form ", i)] = formOf(t, head+"field a int at auto;")
		}
	}
	out["the empty form"] = impl.Form{}
	out["a cycle"] = formOf(t, "label p;role r at p;field a int at p;field b int at p is b;")
	out["a flow down"] = formOf(t, diamond+"role r at top;field a int at top;field b int at low is a;")
	out["a flow sideways"] = formOf(t, diamond+"role r at top;field a int at l;field b int at r must a;")
	return out
}

func TestSolveFormsNotSound(t *testing.T) {
	for what, f := range notSoundForms(t) {
		if isSound(f) {
			t.Errorf("%s is sound", what)
		}
		inputs, cells := make([]impl.Value, len(f.Fields)), make([]impl.Cell, len(f.Fields))
		if got := impl.Solve(f, inputs); len(got) != 0 {
			t.Errorf("%s: solved as %v", what, got)
		}
		for _, k := range someOf(len(f.Fields)) {
			if got := impl.Update(f, inputs, cells, k, blank()); len(got) != 0 {
				t.Errorf("%s: updated to %v", what, got)
			}
		}
	}
}

const threeTypes = "label p;field i int at p;field b bool at p;field s text at p;field c int at p is i;"

func TestSolveWrongInputs(t *testing.T) {
	f := soundText(t, threeTypes)
	good := []impl.Value{whole(1), yes(), words("a"), blank()}
	cells := impl.Solve(f, good)
	if len(cells) != 4 {
		t.Fatalf("the good inputs: %v", cells)
	}
	refuse := func(inputs []impl.Value) {
		t.Helper()
		if got := impl.Solve(f, inputs); len(got) != 0 {
			t.Errorf("inputs %.100v: solved as %v", inputs, got)
		}
		for k := range 3 {
			if got := impl.Update(f, inputs, cells, k, blank()); len(got) != 0 {
				t.Errorf("inputs %.100v: updated to %v", inputs, got)
			}
		}
	}
	for _, inputs := range [][]impl.Value{nil, {}, good[:1], good[:3], append(slices.Clone(good), blank()), append(slices.Clone(good), good...)} {
		refuse(inputs)
	}
	for k := range good {
		for _, v := range append(someValues(), wrongValues()...) {
			inputs := slices.Clone(good)
			inputs[k] = v
			if isInputs(f, inputs) {
				if got := impl.Solve(f, inputs); len(got) != 4 || got[k].Val != v && k < 3 {
					t.Errorf("inputs %.100v: solved as %v", inputs, got)
				}
			} else {
				refuse(inputs)
			}
		}
	}
}

func TestUpdateWrongArguments(t *testing.T) {
	f := soundText(t, threeTypes)
	inputs := []impl.Value{whole(1), yes(), words("a"), blank()}
	cells := impl.Solve(f, inputs)
	refuse := func(cells []impl.Cell, k int, v impl.Value) {
		t.Helper()
		if got := impl.Update(f, inputs, cells, k, v); len(got) != 0 {
			t.Errorf("%.200v, field %d becomes %.100v: %v", cells, k, v, got)
		}
	}
	for _, other := range [][]impl.Cell{nil, {}, cells[:1], cells[:3], append(slices.Clone(cells), impl.Cell{}), append(slices.Clone(cells), cells...)} {
		refuse(other, 0, whole(2))
	}
	for k := range cells {
		for _, v := range wrongValues() {
			other := slices.Clone(cells)
			other[k].Val = v
			refuse(other, 0, whole(2))
			refuse(other, 2, words("b"))
		}
	}
	for _, k := range []int{-1, 3, 4, 5, -4, 1 << 40, math.MaxInt, math.MinInt} {
		refuse(cells, k, blank())
		refuse(cells, k, whole(1))
	}
	for k := range 3 {
		for _, v := range append(someValues(), wrongValues()...) {
			if !plainFits(f.Fields[k], v) {
				refuse(cells, k, v)
			} else if got := impl.Update(f, inputs, cells, k, v); len(got) != 4 || got[k].Val != v {
				t.Errorf("field %d becomes %.100v: %v", k, v, got)
			}
		}
	}
}

// All that an update need not work out anew stays as given, and what it does work out is worked out over that.
func TestUpdateTakesCellsAsTheyAre(t *testing.T) {
	const text = `label p;field a int at p;field b int at p is a + c;field c int at p;field d int at p is 7 valid b = 1 says "no" must c = 1;field e int at p is c valid c = 1 says "no" must true;field g int at p is 1 when b = 9 must a = 1;`
	inputs := []impl.Value{whole(1), {}, whole(2), {}, {}, {}}
	odd := []impl.Cell{cell(words("x"), ""), cell(fault(5), "m"), cell(whole(100), "rm"), cell(whole(8), ""), cell(yes(), ""), cell(whole(3), "r")}
	// b reads the given c, d watches b and is judged though not worked out, e hangs on c alone
	wantUpdated(t, text, inputs, odd, 0, whole(3), cell(whole(3), "ro"), cell(whole(103), "ro"), cell(whole(100), "rm"), cell(whole(8), ""), cell(yes(), ""), cell(whole(1), "o"))
	wantUpdated(t, text, inputs, odd, 0, whole(-99), cell(whole(-99), "ro"), cell(whole(1), "ro"), cell(whole(100), "rm"), cell(whole(8), "o"), cell(yes(), ""), cell(whole(1), "o"))
	// c changes: b sees blank in place of a, which is given as not relevant
	wantUpdated(t, text, inputs, odd, 2, whole(1), cell(words("x"), ""), cell(blank(), "ro"), cell(whole(1), "ro"), cell(whole(8), "om"), cell(whole(1), "rom"), cell(whole(1), "o"))
	rel := slices.Clone(odd)
	rel[0].Rel = true
	wantUpdated(t, text, inputs, rel, 2, whole(1), cell(words("x"), "r"), cell(fault(1), "ro"), cell(whole(1), "ro"), cell(whole(8), "m"), cell(whole(1), "rom"), cell(whole(1), "o"))
	// the entry of k in the inputs is not looked at, and a field that no one reads changes alone
	const apart = "label p;field a int at p;field b int at p;field c int at p is b;"
	wantUpdated(t, apart, []impl.Value{whole(5), whole(6), {}}, odd[:3], 0, whole(9), cell(whole(9), "ro"), odd[1], odd[2])
	wantUpdated(t, apart, []impl.Value{whole(5), whole(6), {}}, odd[:3], 1, blank(), odd[0], cell(blank(), "ro"), cell(blank(), "ro"))
	// an input field in the list of the dirty ones takes its entry in the inputs, not the given Val
	const fed = "label p;field a bool at p;field b int at p when a;field c int at p is b;"
	wantUpdated(t, fed, []impl.Value{no(), whole(6), {}}, odd[:3], 0, yes(), cell(yes(), "ro"), cell(whole(6), "ro"), cell(whole(6), "ro"))
	wantUpdated(t, fed, []impl.Value{yes(), whole(6), {}}, odd[:3], 0, no(), cell(no(), "ro"), cell(whole(6), "o"), cell(blank(), "ro"))
}

func TestSolveChangesNoArgument(t *testing.T) {
	f := soundText(t, threeTypes)
	kept := tidy(f)
	inputs := []impl.Value{whole(1), yes(), words("a"), blank()}
	first := impl.Solve(f, inputs)
	second := impl.Update(f, inputs, first, 0, whole(2))
	third := impl.Update(f, inputs, first, 0, whole(1))
	if first[0].Val != whole(1) || first[3].Val != whole(1) || second[3].Val != whole(2) {
		t.Errorf("%v and %v", first, second)
	}
	for k := range third {
		third[k], second[k] = impl.Cell{}, impl.Cell{}
	}
	if !slices.Equal(first, impl.Solve(f, inputs)) || !slices.Equal(inputs, []impl.Value{whole(1), yes(), words("a"), blank()}) || !sameForm(f, kept) {
		t.Errorf("changed: %v, %v", first, inputs)
	}
}

// Promise 11, over mixed forms: the words of Solve, a chain of edits, and cells that no one has solved.
func TestSolveMixed(t *testing.T) {
	m := mixer(50)
	kinds, marks := map[int]int{}, map[string]int{}
	for range 1500 {
		f := mixedSound(&m, mixedLattice(&m), m.below(9))
		inputs := mixedInputs(&m, f)
		want := plainSolve(f, inputs)
		cells := impl.Solve(f, inputs)
		if !slices.Equal(cells, want) {
			t.Fatalf("%q with %v:\n%v, want\n%v", plainCanonical(f), inputs, cells, want)
		}
		for k, c := range cells {
			if c != plainSays(f, inputs, cells, k) {
				t.Errorf("%q with %v: cell %d is %v", plainCanonical(f), inputs, k, c)
			}
			kinds[c.Val.Kind]++
			marks[fmt.Sprint("relevant ", c.Rel)]++
			marks[fmt.Sprint("ok ", c.Ok)]++
			marks[fmt.Sprint("must ", c.Must)]++
		}
		wantChain(t, &m, f, inputs, cells)
	}
	for kind := impl.KBlank; kind <= impl.KErr; kind++ {
		if kinds[kind] < 200 {
			t.Errorf("kinds seen: %v", kinds)
		}
	}
	for mark, count := range marks {
		if count < 300 {
			t.Errorf("%s: %d", mark, count)
		}
	}
}

func wantChain(t *testing.T, m *mixer, f impl.Form, inputs []impl.Value, cells []impl.Cell) {
	t.Helper()
	for range 6 {
		k := m.below(len(f.Fields)+2) - 1
		v := mixedFitting(m, 1+m.below(3))
		if k >= 0 && k < len(f.Fields) && m.below(8) > 0 {
			v = mixedFitting(m, f.Fields[k].Type)
		}
		odd := mixedCells(m, f)
		got, want := impl.Update(f, inputs, odd, k, v), plainUpdate(f, inputs, odd, k, v)
		if !slices.Equal(got, want) {
			t.Fatalf("%q with %v and %v, field %d becomes %v:\n%v, want\n%v", plainCanonical(f), inputs, odd, k, v, got, want)
		}
		next := impl.Update(f, inputs, cells, k, v)
		if want == nil {
			if len(next) != 0 {
				t.Fatalf("%q with %v, field %d becomes %v: %v", plainCanonical(f), inputs, k, v, next)
			}
			continue
		}
		inputs[k] = v
		if again := impl.Solve(f, inputs); !slices.Equal(next, again) {
			t.Fatalf("%q with %v, field %d becomes %v:\n%v, want\n%v", plainCanonical(f), inputs, k, v, next, again)
		}
		cells = next
	}
}
