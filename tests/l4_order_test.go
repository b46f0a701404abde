package tests

import (
	"fmt"
	"math"
	"slices"
	"strings"
	"testing"

	"loop.example/s0011/impl"
)

func wantOrder(t *testing.T, text string, want ...int) {
	t.Helper()
	if got := impl.CalcOrder(formOf(t, text)); !slices.Equal(got, want) {
		t.Errorf("order of %.600q: %v, want %v", text, got, want)
	}
}

func wantDirty(t *testing.T, text string, k int, want ...int) {
	t.Helper()
	if got := impl.Dirty(formOf(t, text), k); !slices.Equal(got, want) {
		t.Errorf("dirty by %d in %.600q: %v, want %v", k, text, got, want)
	}
}

// wantNoOrder asks for the empty list at every field.
func wantNoOrder(t *testing.T, what string, f impl.Form) {
	t.Helper()
	if got := impl.CalcOrder(f); len(got) != 0 {
		t.Errorf("%.600s: order %v", what, got)
	}
	for _, k := range someOf(len(f.Fields)) {
		if got := impl.Dirty(f, k); len(got) != 0 {
			t.Errorf("%.600s: dirty by %d %v", what, k, got)
		}
	}
}

// fieldsOf writes a field for each list of rules, named a, b, c and so on.
func fieldsOf(rules ...string) string {
	out := ""
	for i, rule := range rules {
		out += fmt.Sprintf("field %c int at auto %s;", 'a'+i, rule)
	}
	return out
}

func TestOrderWrittenOut(t *testing.T) {
	wantOrder(t, fieldsOf("", "", ""), 0, 1, 2)
	wantOrder(t, fieldsOf("is b", ""), 1, 0)
	wantOrder(t, fieldsOf("when b", ""), 1, 0)
	wantOrder(t, fieldsOf("", "is a"), 0, 1)
	wantOrder(t, fieldsOf("", "when a"), 0, 1)
	wantOrder(t, fieldsOf("is b when c", "", ""), 1, 2, 0)
	wantOrder(t, fieldsOf("is c when c", "", ""), 1, 2, 0)
	wantOrder(t, fieldsOf("is b when c", "when c", ""), 2, 1, 0)
	wantOrder(t, fieldsOf("is b when c", "", "is b"), 1, 2, 0)
	wantOrder(t, fieldsOf("is 1 when true", "is 2", "when false"), 0, 1, 2)
	wantOrder(t, fieldsOf("is min(c, d) + c * -c", "", "is d", ""), 1, 3, 2, 0)
	wantOrder(t, fieldsOf("when if(b, c, d) = b", "", "", ""), 1, 2, 3, 0)
}

// After each field that is listed the lowest one that has become ready comes next, though others were ready before it.
func TestOrderLowestComesNext(t *testing.T) {
	wantOrder(t, fieldsOf("is b", "", "", ""), 1, 0, 2, 3)
	wantOrder(t, fieldsOf("is c", "", "", ""), 1, 2, 0, 3)
	wantOrder(t, fieldsOf("is b", "is c", "", "", ""), 2, 1, 0, 3, 4)
	wantOrder(t, fieldsOf("is e", "is d", "", "", ""), 2, 3, 1, 4, 0)
	wantOrder(t, fieldsOf("is b + d", "", "is e", "", ""), 1, 3, 0, 4, 2)
	wantOrder(t, fieldsOf("is f", "is a", "", "is b", "", "", ""), 2, 4, 5, 0, 1, 3, 6)
}

func TestOrderReadsOften(t *testing.T) {
	wantOrder(t, fieldsOf("is b + b + b when b = b", ""), 1, 0)
	wantOrder(t, fieldsOf("is b + c + b", "is c * c", "", "is a when a"), 2, 1, 0, 3)
	wantDirty(t, fieldsOf("is b + c + b", "is c * c", "", "is a when a"), 2, 2, 1, 0, 3)
	wantDirty(t, fieldsOf("is b + b + b when b = b", ""), 1, 1, 0)
}

// Texts and constants that look like the name of a field read nothing.
func TestOrderReadsByNameAlone(t *testing.T) {
	wantOrder(t, `field a text at auto is "b" valid true says "a"; field b text at auto is "a";`, 0, 1)
	wantOrder(t, `field min int at auto is min(max, 1); field max int at auto;`, 1, 0)
	wantOrder(t, `label b; role b at b; field a int at b by b; field b int at b is a;`, 0, 1)
	wantDirty(t, `field a text at auto is "b"; field b text at auto;`, 1, 1)
}

func TestOrderEdges(t *testing.T) {
	wantOrder(t, "")
	wantOrder(t, "label a; label b;")
	wantOrder(t, "field x int at auto;", 0)
	wantOrder(t, "field x int at auto is 1;", 0)
	wantDirty(t, "field x int at auto is 1;", 0, 0)
	wantNoOrder(t, "the empty form", impl.Form{})
	// neither a lattice nor labels that fit are asked for here
	wantOrder(t, "label p; label q; below p q; below q p; field a int at p is b; field b int at q;", 1, 0)
	wantOrder(t, "label p; label q; below p q; field a int at p is b; field b int at q;", 1, 0)
}

func TestDirtyWrittenOut(t *testing.T) {
	form := fieldsOf("is d", "", "when a", "is b", "is b when c", "")
	wantOrder(t, form, 1, 3, 0, 2, 4, 5)
	wantDirty(t, form, 0, 0, 2, 4)
	wantDirty(t, form, 1, 1, 3, 0, 2, 4)
	wantDirty(t, form, 2, 2, 4)
	wantDirty(t, form, 3, 3, 0, 2, 4)
	wantDirty(t, form, 4, 4)
	wantDirty(t, form, 5, 5)
	for _, k := range []int{-1, 6, -2, 7, 1 << 40, math.MaxInt, math.MinInt} {
		wantDirty(t, form, k)
	}
	wantDirty(t, "", 0)
	wantDirty(t, "", -1)
	wantDirty(t, "label a;", 0)
}

// A field comes in once, however many ways lead to it, and what feeds it is not dirty for that.
func TestDirtyManyWays(t *testing.T) {
	form := fieldsOf("is b + c + d", "is d", "is d", "", "", "is a + e")
	wantDirty(t, form, 3, 3, 1, 2, 0, 5)
	wantDirty(t, form, 1, 1, 0, 5)
	wantDirty(t, form, 4, 4, 5)
}

// reading writes a rule that reads all the given fields and keeps the limit of depth.
func reading(names []string) string {
	if len(names) == 1 {
		return names[0]
	}
	half := len(names) / 2
	return "min(" + reading(names[:half]) + "," + reading(names[half:]) + ")"
}

func numbered(from int, to int) []string {
	names := []string{}
	for i := from; i < to; i++ {
		names = append(names, fmt.Sprint("f", i))
	}
	return names
}

// fullForm has MaxFields fields named f0, f1 and so on, each with what rule gives for it.
func fullForm(rule func(i int) string) string {
	var out strings.Builder
	for i := range impl.MaxFields {
		fmt.Fprintf(&out, "field f%d int at auto %s;", i, rule(i))
	}
	return out.String()
}

func upTo(n int) []int {
	out := []int{}
	for i := range n {
		out = append(out, i)
	}
	return out
}

func downFrom(n int) []int {
	out := upTo(n)
	slices.Reverse(out)
	return out
}

func TestOrderOfMaxFields(t *testing.T) {
	const last = impl.MaxFields - 1
	alone := fullForm(func(int) string { return "" })
	wantOrder(t, alone, upTo(200)...)
	wantDirty(t, alone, 0, 0)
	wantDirty(t, alone, last, last)
	wantDirty(t, alone, 200)
	tooMany := formOf(t, alone)
	tooMany.Fields = append(tooMany.Fields, impl.Field{Name: "z", Type: 1, Label: -1})
	wantNoOrder(t, "one field too many", tooMany)
	for _, word := range []string{"is", "when"} {
		chain := fullForm(func(i int) string {
			if i == 0 {
				return ""
			}
			return fmt.Sprint(word, " f", i-1)
		})
		wantOrder(t, chain, upTo(200)...)
		wantDirty(t, chain, 0, upTo(200)...)
		wantDirty(t, chain, last, last)
		wantDirty(t, chain, 197, 197, 198, 199)
		back := fullForm(func(i int) string {
			if i == last {
				return ""
			}
			return fmt.Sprint(word, " f", i+1)
		})
		wantOrder(t, back, downFrom(200)...)
		wantDirty(t, back, last, downFrom(200)...)
		wantDirty(t, back, 0, 0)
		wantDirty(t, back, 2, 2, 1, 0)
		wantFlow(t, formOf(t, back))
	}
}

func TestOrderManyAndOne(t *testing.T) {
	const last = impl.MaxFields - 1
	only := func(place int, rule string) func(int) string {
		return func(i int) string {
			if i == place {
				return rule
			}
			return ""
		}
	}
	many := fullForm(only(0, "is "+reading(numbered(1, 200))))
	wantOrder(t, many, append(upTo(200)[1:], 0)...)
	wantDirty(t, many, 0, 0)
	wantDirty(t, many, last, last, 0)
	many = fullForm(only(last, "when "+reading(numbered(0, 199))))
	wantOrder(t, many, upTo(200)...)
	wantDirty(t, many, 0, 0, last)
	many = fullForm(only(100, "is "+reading(numbered(0, 100))+" when "+reading(numbered(101, 200))))
	wantOrder(t, many, append(append(upTo(100), upTo(200)[101:]...), 100)...)
	one := fullForm(func(i int) string {
		if i == last {
			return ""
		}
		return "is f199"
	})
	wantOrder(t, one, append([]int{last}, upTo(199)...)...)
	wantDirty(t, one, last, append([]int{last}, upTo(199)...)...)
	wantDirty(t, one, 0, 0)
	one = fullForm(func(i int) string {
		if i == 0 {
			return ""
		}
		return "when f0"
	})
	wantOrder(t, one, upTo(200)...)
	wantDirty(t, one, 0, upTo(200)...)
	wantDirty(t, one, last, last)
}

func TestOrderCycles(t *testing.T) {
	for _, text := range []string{
		fieldsOf("is a"),
		fieldsOf("when a"),
		fieldsOf("is 1 when a"),
		fieldsOf("is 2 * -a + 1"),
		fieldsOf("", "is b", ""),
		fieldsOf("is b", "is a"),
		fieldsOf("is b", "when a"),
		fieldsOf("when b", "is a"),
		fieldsOf("when b", "when a"),
		fieldsOf("", "is c when a", "is b when a"),
		fieldsOf("is b", "is c", "is a"),
		fieldsOf("is c", "when a", "is b"),
		fieldsOf("is b", "is c", "is d", "is e", "is b"),
		fieldsOf("", "is a", "is d", "is c", "is d"),
		fieldsOf("is b", "is c", "is c + d", ""),
		fullForm(func(i int) string { return fmt.Sprint("is f", (i+1)%200) }),
		fullForm(func(i int) string { return fmt.Sprint("when f", (i+199)%200) }),
	} {
		wantNoOrder(t, text, formOf(t, text))
	}
}

// What Valid and Must rules read makes no cycle and feeds nothing.
func TestOrderValidAndMustFeedNothing(t *testing.T) {
	wantOrder(t, fieldsOf(`valid a says ""`), 0)
	wantOrder(t, fieldsOf("must a"), 0)
	wantOrder(t, fieldsOf(`valid b says ""`, ""), 0, 1)
	wantOrder(t, fieldsOf("must b", ""), 0, 1)
	wantOrder(t, fieldsOf(`valid b says ""`, `valid a says ""`), 0, 1)
	wantOrder(t, fieldsOf("must b", "must a"), 0, 1)
	wantOrder(t, fieldsOf("must b", `valid c says ""`, "must a"), 0, 1, 2)
	wantOrder(t, fieldsOf("is b must b", `valid a says ""`), 1, 0)
	wantOrder(t, fieldsOf(`when b valid a says "" must a`, "must a + b"), 1, 0)
	wantDirty(t, fieldsOf(`valid a says ""`), 0, 0)
	wantDirty(t, fieldsOf(`valid b says ""`, "must a"), 0, 0)
	wantDirty(t, fieldsOf(`valid b says ""`, "must a"), 1, 1)
	wantDirty(t, fieldsOf("is c", "must a", "", `valid c says ""`), 2, 2, 0)
	ring := fullForm(func(i int) string { return fmt.Sprintf("valid f%d says \"\" must f%d", (i+1)%200, (i+199)%200) })
	wantOrder(t, ring, upTo(200)...)
	wantDirty(t, ring, 7, 7)
}

// notValidForms has forms that would have an order, labels and no fault but for the one thing that makes them not valid.
func notValidForms(t *testing.T) map[string]impl.Form {
	out := map[string]impl.Form{}
	change := func(what string, how func(f *impl.Form)) {
		f := formOf(t, "label p; label q; below p q; role r at p; field a int at p by r; field b int at q is a; field c int at auto when b valid a says \"\" must true;")
		how(&f)
		out[what] = f
	}
	change("a label twice", func(f *impl.Form) { f.Labels[1] = "p" })
	change("a reserved word", func(f *impl.Form) { f.Labels[1] = "is" })
	change("a pair of no label", func(f *impl.Form) { f.Below[0].Hi = 2 })
	change("a role at no label", func(f *impl.Form) { f.Roles[0].Label = -1 })
	change("no type", func(f *impl.Form) { f.Fields[0].Type = 0 })
	change("a label too high", func(f *impl.Form) { f.Fields[0].Label = 2 })
	change("a label too low", func(f *impl.Form) { f.Fields[0].Label = -2 })
	change("a field twice", func(f *impl.Form) { f.Fields[2].Name = "a" })
	change("a field by no role", func(f *impl.Form) { f.Fields[0].By[0] = 1 })
	change("by and is", func(f *impl.Form) { f.Fields[1].By = []int{0} })
	change("no expression", func(f *impl.Form) { f.Fields[1].Is = append(f.Fields[1].Is, field("a")) })
	change("an unknown field in Is", func(f *impl.Form) { f.Fields[1].Is[0].Name = "z" })
	change("an unknown field in When", func(f *impl.Form) { f.Fields[2].When[0].Name = "z" })
	change("an unknown field in Valid", func(f *impl.Form) { f.Fields[2].Valid[0].Name = "z" })
	change("an unknown field in Must", func(f *impl.Form) { f.Fields[2].Must = []impl.Node{field("z")} })
	change("says without valid", func(f *impl.Form) { f.Fields[0].Says = "n" })
	change("too long", func(f *impl.Form) { *f = roomy(impl.MaxFormText + 1) })
	change("too many labels", func(f *impl.Form) { *f = impl.Form{Labels: numbered(0, 33), Below: chainUp(33).Pairs} })
	change("too many pairs", func(f *impl.Form) {
		f.Below = slices.Repeat(f.Below, impl.MaxPairs+1)
	})
	return out
}

func TestOrderOfFormsNotValid(t *testing.T) {
	for what, f := range notValidForms(t) {
		if plainValidForm(f) {
			t.Errorf("%s: valid", what)
		}
		wantNoOrder(t, what, f)
	}
}

func TestOrderAnswersAreNew(t *testing.T) {
	f := formOf(t, fieldsOf("is b", "", "is a"))
	for range 2 {
		order, dirty, fewer := impl.CalcOrder(f), impl.Dirty(f, 1), impl.Dirty(f, 0)
		if !slices.Equal(order, []int{1, 0, 2}) || !slices.Equal(dirty, []int{1, 0, 2}) || !slices.Equal(fewer, []int{0, 2}) {
			t.Fatalf("%v, %v and %v", order, dirty, fewer)
		}
		for i := range order {
			order[i], dirty[i] = 9, 8
		}
	}
}

// Every form of up to three fields in which each rule of feeding reads one field, or none.
func TestOrderEverySmallForm(t *testing.T) {
	counts := map[bool]int{}
	for n := 1; n <= 3; n++ {
		choices := (n + 1) * (n + 1)
		for pick := range int(math.Pow(float64(choices), float64(n))) {
			rules := []string{}
			for range n {
				is, when := pick%choices/(n+1), pick%choices%(n+1)
				rules = append(rules, pickedRule("is", is)+pickedRule("when", when))
				pick /= choices
			}
			f := formOf(t, fieldsOf(rules...))
			wantFlow(t, f)
			counts[len(plainOnCycle(f)) > 0]++
		}
	}
	if counts[true] < 100 || counts[false] < 100 {
		t.Errorf("with a cycle and without: %v", counts)
	}
}

// pickedRule reads field number i, counted from 1, or is no rule at all if i is 0.
func pickedRule(word string, i int) string {
	if i == 0 {
		return ""
	}
	return fmt.Sprintf(" %s %c", word, 'a'+i-1)
}
