package tests

import (
	"fmt"
	"slices"
	"strings"
	"testing"

	"loop.example/s0011/impl"
)

func ran(t *testing.T, form string, lines []string) []impl.Answer {
	t.Helper()
	d, answers := impl.Run(form, strings.Join(append(slices.Clone(lines), ""), "\n"))
	if d != (impl.Diag{}) || len(answers) != len(lines) {
		t.Fatalf("%.600q, %.600q: %v and %d answers", form, lines, d, len(answers))
	}
	return answers
}

// wantNoTrace takes each line out in turn, if it is refused or no edit, and gives how many there were by kind and code.
func wantNoTrace(t *testing.T, form string, lines []string) map[string]int {
	t.Helper()
	all := ran(t, form, lines)
	taken := map[string]int{}
	for i, line := range lines {
		kind, _ := plainStep(line)
		if kind == "edit" && all[i].Code == 0 {
			continue
		}
		taken[fmt.Sprint(kind, " ", all[i].Code)]++
		want := slices.Delete(slices.Clone(all), i, i+1)
		if got := ran(t, form, slices.Delete(slices.Clone(lines), i, i+1)); !slices.Equal(got, want) {
			t.Errorf("%.600q, %.1000q without %q:\n%q, want\n%q", form, lines, line, asText(got), asText(want))
		}
	}
	return taken
}

// looks asks for all that the two roles of desk can be told.
var looks = []string{"view clerk", "view boss", "errors clerk", "errors boss", "submit clerk", "submit boss", "export clerk", "export boss", "next clerk on", "prev clerk z", "next boss on", "prev boss z"}

func TestNoTraceOfRefusedSteps(t *testing.T) {
	edits := []string{"edit clerk on true", "edit clerk n 3", "edit boss s 4", "edit boss t \"a\"", "edit clerk on false", "edit clerk on true", "edit clerk n 0"}
	for code, refused := range map[int][]string{
		1: {"", "edit clerk on", "edit clerk", "edit", "put clerk on false", "view", "next clerk"},
		2: {"edit nobody on false", "edit  on false", "view nobody", "submit clerk ", "export boss boss", "next nobody on"},
		3: {"edit clerk s 9", "edit clerk x 9", "edit clerk  9", "edit boss x 9", "next clerk s", "prev boss x"},
		4: {"edit boss on false", "edit clerk q 9", "edit boss h \"z\"", "edit clerk z 1"},
		5: {"edit clerk n 9", "edit boss s 9", "edit clerk n true"},
		6: {"edit clerk on maybe", "edit clerk on ", "edit clerk t \"z", "edit boss t !1", "edit clerk t \"z\" "},
		7: {"edit clerk on 1", "edit clerk on \"false\"", "edit clerk t 9", "edit boss t true"},
		8: {"submit clerk", "submit boss"},
		9: {"next clerk z", "prev clerk on", "next boss z"},
	} {
		for _, line := range refused {
			met := false
			for place := range len(edits) + 1 {
				lines := slices.Concat(edits[:place], []string{line}, edits[place:], looks)
				met = met || ran(t, desk, lines)[place].Code == code
				wantNoTrace(t, desk, lines)
			}
			if !met {
				t.Errorf("%q is never refused with code %d", line, code)
			}
		}
	}
}

func TestNoTraceOfSteps(t *testing.T) {
	edits := []string{"edit clerk on true", "edit clerk n 4", "edit boss s 4", "edit boss t \"a\"", "edit clerk on false", "edit clerk on true"}
	for _, line := range looks {
		for place := range len(edits) + 1 {
			wantNoTrace(t, desk, slices.Concat(edits[:place], []string{line, line}, edits[place:], looks))
		}
	}
	// an edit that sets what the field has already does leave a trace
	answers := ran(t, desk, []string{"edit clerk on true", "edit clerk on true", "export clerk"})
	if answers[2].Text != "1 clerk on true\n2 clerk on true\n" {
		t.Errorf("%q", answers[2].Text)
	}
}

// Promise 15, over mixed forms and scripts.
func TestNoTraceMixed(t *testing.T) {
	m := mixer(56)
	taken := map[string]int{}
	for range 250 {
		f := mixedSound(&m, mixedLattice(&m), 1+m.below(8))
		lines := plainLines(mixedScript(&m, f, m.below(30)))
		for what, count := range wantNoTrace(t, plainCanonical(f), lines) {
			taken[what] += count
		}
	}
	for _, what := range []string{" 1", "edit 2", "edit 3", "edit 4", "edit 5", "edit 7", "view 0", "errors 0", "submit 0", "submit 8", "export 0", "next 0", "next 9", "prev 0", "prev 9"} {
		if taken[what] < 10 {
			t.Errorf("taken out: %v", taken)
		}
	}
}

// stepsOf gives the places of the lines that are a step of a role.
func stepsOf(lines []string, role string) []int {
	places := []int{}
	for i, line := range lines {
		if kind, parts := plainStep(line); kind != "" && parts[0] == role {
			places = append(places, i)
		}
	}
	return places
}

// wantSameFor runs two scripts and asks that a role is answered the same in both; it says whether anyone is answered otherwise.
func wantSameFor(t *testing.T, form string, role string, first []string, second []string) bool {
	t.Helper()
	a, b := ran(t, form, first), ran(t, form, second)
	for _, i := range stepsOf(first, role) {
		if a[i] != b[i] {
			t.Errorf("%.1000q: %s is answered %v to %q in\n%.1000q, and %v in\n%.1000q", form, role, a[i], first[i], first, b[i], second)
		}
	}
	return !slices.Equal(a, b)
}

// hiddenValues differ in kind, in length, and in whether they are accepted by a field of one of the three types.
var hiddenValues = []string{"1", "0", "-5", "9223372036854775807", "-9223372036854775808", "true", "false", "blank", `"x"`, `""`, `"a b c"`, `"` + long(1000) + `"`, `"` + long(1001) + `"`, "", " ", "x", "!1", "01", "1 ", "view clerk", "?"}

// In each form rules of other fields read the hidden ones, and all that the clerk can be told is asked for.
func TestHiddenValuesWrittenOut(t *testing.T) {
	head := "label low;label high;below low high;role clerk at low;role boss at high;field a int at low by clerk by boss;"
	tail := "field z bool at low by boss by clerk valid isblank(a) or a < 9 says \"z\" must a = 3;"
	told := map[string]bool{}
	for _, kind := range []string{"int", "bool", "text"} {
		for _, readers := range []string{
			"",
			"field x int at auto is s;field y int at auto is x + a;",
			"field x int at high by boss when s = s;field y int at high by boss by clerk when isblank(s);",
			"field x int at auto is a valid s says \"x\" must isblank(s);",
			"field x text at high by boss when s valid str(s) = x says \"x\" must s;field y text at auto is x & str(s);",
			"field x int at high by clerk when iserr(s + 1);field y int at auto is orelse(x, a);",
		} {
			form := head + "field s " + kind + " at high by boss by clerk;" + readers + tail
			for _, before := range hiddenValues {
				script := func(v string) []string {
					return []string{"edit clerk a 1", "edit boss s " + before, "view clerk", "edit boss s " + v, "edit clerk s " + v, "edit boss a 3", "edit boss x 7", "view clerk", "errors clerk", "submit clerk", "export clerk", "next clerk a", "prev clerk z",
						"next clerk s", "prev clerk x", "next clerk y", "edit clerk z true", "edit clerk x 1", "edit clerk a 9", "edit boss s " + v, "view clerk", "errors clerk", "submit clerk", "export clerk", "view boss", "export boss"}
				}
				for _, v := range hiddenValues[1:] {
					if wantSameFor(t, form, "clerk", script(hiddenValues[0]), script(v)) {
						told[kind+" "+readers] = true
					}
				}
			}
		}
	}
	// the boss, who sees all, is told of it
	if len(told) != 18 {
		t.Errorf("the values made a difference in %d forms", len(told))
	}
}

// The two roles stand beside each other, and each edits what the other one can't see.
func TestHiddenBeside(t *testing.T) {
	const form = diamond + fourRoles + "field a int at l by rl by rr by rtop;field b int at r by rr by rl by rtop;field c int at low by rl by rr;field d int at auto is a + c;field e int at auto is b - c;field g int at auto is d * e;field h int at top by rtop when g = 2;"
	told := 0
	for _, v := range hiddenValues {
		for _, w := range hiddenValues {
			script := func(v string) []string {
				return []string{"edit rl a 5", "edit rr b " + v, "edit rl b " + v, "edit rtop b " + v, "edit rl c 1", "edit rr c 2", "edit rtop h 1", "view rl", "errors rl", "submit rl", "export rl", "next rl a", "prev rl d", "next rl b", "prev rl g", "view rtop"}
			}
			if wantSameFor(t, form, "rl", script(v), script(w)) {
				told++
			}
			if wantSameFor(t, form, "rlow", script(v), script(w)) {
				told++
			}
		}
	}
	if told == 0 {
		t.Error("the values made no difference to anyone")
	}
}

// otherHidden puts another value into each edit of a field that is not visible to the role.
func otherHidden(m *mixer, f impl.Form, sees []bool, lines []string) []string {
	out := []string{}
	for _, line := range lines {
		kind, parts := plainStep(line)
		if kind == "edit" {
			if k := slices.Index(plainNames(f)[3], parts[1]); k >= 0 && !sees[k] {
				value := hiddenValues[m.below(len(hiddenValues))]
				if m.below(2) == 0 {
					value = plainShow(mixedFitting(m, f.Fields[k].Type))
				}
				line = "edit " + parts[0] + " " + parts[1] + " " + value
			}
		}
		out = append(out, line)
	}
	return out
}

// Promise 16, over mixed forms and scripts.
func TestHiddenMixed(t *testing.T) {
	m := mixer(57)
	told, steps := 0, 0
	for range 600 {
		f := mixedSound(&m, smallLattices[1+m.below(len(smallLattices)-1)], 3+m.below(7))
		form := plainCanonical(f)
		lines := plainLines(mixedScript(&m, f, 30))
		for r, sees := range plainSees(f) {
			role := f.Roles[r].Name
			steps += len(stepsOf(lines, role))
			if wantSameFor(t, form, role, lines, otherHidden(&m, f, sees, lines)) {
				told++
			}
		}
	}
	if told < 100 || steps < 3000 {
		t.Errorf("others were told in %d scripts, %d steps", told, steps)
	}
}

// wantShortExports gives the greatest number of bytes by which an export comes near the script, counted from below 0 upward.
func wantShortExports(t *testing.T, form string, script string) int {
	t.Helper()
	nearest := -len(script)
	_, answers := impl.Run(form, script)
	for i, line := range plainLines(script) {
		if kind, _ := plainStep(line); kind == "export" {
			nearest = max(nearest, len(answers[i].Text)-len(script))
		}
	}
	if nearest > 1 {
		t.Errorf("%.600q, %.600q: an export has %d bytes more than the script", form, script, nearest)
	}
	return nearest
}

// Promise 17. Where the numbers have four digits, a line of the export is as long as the line of its edit.
func TestExportsAreShort(t *testing.T) {
	const form = "label p;role r at p;field a int at p by r;field t text at p by r;"
	for _, count := range []int{0, 1, 9, 10, 99, 100, 999, 1000, 3999} {
		for _, edit := range []string{"edit r a 1\n", "edit r a -1\n", "edit r t \"\"\n"} {
			for _, end := range []string{"export r", "export r\n"} {
				script := strings.Repeat(edit, count) + end
				digits := len(strings.Join(numbered(1, count+1), "")) - count
				// each edit gives way to its number, which has up to four digits
				want := digits - 4*count - len(end)
				if got := wantShortExports(t, form, script); got != want {
					t.Errorf("%d times %q: %d bytes, want %d", count, edit, got, want)
				}
			}
		}
	}
	wantShortExports(t, form, strings.Repeat("edit r t \""+long(1000)+"\"\n", 58)+"export r")
	wantShortExports(t, form, strings.Repeat("export r\n", 4000))
}

func TestExportsAreShortMixed(t *testing.T) {
	m := mixer(58)
	for range 300 {
		f := mixedSound(&m, mixedLattice(&m), 1+m.below(5))
		script := mixedScript(&m, f, m.below(60)) + "export r0"
		wantShortExports(t, plainCanonical(f), script)
	}
}
