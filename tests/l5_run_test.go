package tests

import (
	"fmt"
	"slices"
	"strings"
	"testing"

	"loop.example/s0011/impl"
)

const office = "label low;label high;below low high;role clerk at low;role boss at high;" +
	"field a int at low by clerk by boss valid 0 <= a says \"negative\" must true;field s int at high by boss;field sum int at auto is a + orelse(s, 0);"

// asText writes answers one after the other, each newline as |.
func asText(answers []impl.Answer) []string {
	out := []string{}
	for _, a := range answers {
		out = append(out, strings.TrimSuffix(fmt.Sprint(a.Code, " ", strings.ReplaceAll(a.Text, "\n", "|")), " "))
	}
	return out
}

// wantRun takes pairs of a line and its answer: the code, a space and the text with each newline as |.
func wantRun(t *testing.T, form string, pairs ...string) {
	t.Helper()
	script, want := "", []string{}
	for i := 0; i < len(pairs); i += 2 {
		script += pairs[i] + "\n"
		want = append(want, pairs[i+1])
	}
	for _, text := range []string{script, strings.TrimSuffix(script, "\n")} {
		// without its newline a last line that is empty is no line
		if strings.HasSuffix("\n"+text, "\n") && text != script {
			continue
		}
		d, answers := impl.Run(form, text)
		if got := asText(answers); d != (impl.Diag{}) || !slices.Equal(got, want) {
			t.Errorf("%.600q, %.1000q: %v\n%q, want\n%q", form, text, d, got, want)
		}
	}
}

func wantRefusedRun(t *testing.T, form string, script string, code int, at int) {
	t.Helper()
	d, answers := impl.Run(form, script)
	if d.Code != code || d.At != at || len(answers) != 0 {
		t.Errorf("%.100q, %.100q: %v and %d answers, want %d %d", form, script, d, len(answers), code, at)
	}
}

func TestRunTheExample(t *testing.T) {
	wantRun(t, office,
		"edit clerk a 5", "0",
		"edit clerk s 7", "3",
		"edit boss s 7", "0",
		"view clerk", "0 a 5 must|",
		"view boss", "0 a 5 must|s 7|sum 12|",
		"submit clerk", "0 a 5|",
		"export clerk", "0 1 clerk a 5|",
		"export boss", "0 1 clerk a 5|2 boss s 7|",
		"next boss a", "0 s",
		"next clerk a", "9")
}

const desk = "label low;label high;below low high;role clerk at low;role boss at high;" +
	"field on bool at low by clerk;field n int at low by clerk when on valid n < 10 says \"too (great)\" must on;field t text at low by clerk by boss must true;" +
	"field s int at high by clerk by boss when on valid s <> 3 says \"\";field q int at low is 12 / n;field h text at auto is t & str(s) must isblank(s);field z int at low;"

func TestRunEveryStep(t *testing.T) {
	wantRun(t, desk,
		"view clerk", "0 on blank|t blank must missing|q blank|z blank|",
		"view boss", "0 on blank|t blank must missing|q blank|h blank must missing|z blank|",
		"errors clerk", "0 t blank must missing|",
		"errors boss", "0 t blank must missing|h blank must missing|",
		"submit clerk", "8 t blank must missing|",
		"submit boss", "8 t blank must missing|h blank must missing|",
		"next clerk on", "0 t", "next clerk t", "9", "prev clerk t", "0 on", "prev clerk on", "9", "prev clerk z", "0 t", "next boss on", "0 t", "prev boss z", "0 t", "next boss s", "9",
		"export clerk", "0", "export boss", "0",
		"edit clerk on true", "0",
		"next clerk on", "0 n", "next clerk n", "0 t", "prev clerk q", "0 t", "prev boss q", "0 s", "next boss t", "0 s",
		"edit boss s 3", "0",
		"edit clerk n 0", "0",
		"view clerk", "0 on true|n 0 must|t blank must missing|q !3 error|z blank|",
		"view boss", "0 on true|n 0 must|t blank must missing|s 3 bad \"\"|q !3 error|h blank|z blank|",
		"edit boss t \"a b\"", "0",
		"errors clerk", "0 q !3 error|",
		"errors boss", "0 s 3 bad \"\"|q !3 error|",
		"submit boss", "8 s 3 bad \"\"|q !3 error|",
		"edit clerk n 24", "0",
		"view clerk", "0 on true|n 24 must bad \"too (great)\"|t \"a b\" must|q 0|z blank|",
		"edit clerk n 4", "0",
		"submit clerk", "0 on true|n 4|t \"a b\"|q 3|",
		"edit boss s -1", "0",
		"submit boss", "0 on true|n 4|t \"a b\"|s -1|q 3|h \"a b-1\"|",
		"export clerk", "0 1 clerk on true|2 clerk n 0|3 boss t \"a b\"|4 clerk n 24|5 clerk n 4|",
		"export boss", "0 1 clerk on true|2 boss s 3|3 clerk n 0|4 boss t \"a b\"|5 clerk n 24|6 clerk n 4|7 boss s -1|",
		// what is not relevant is not shown, keeps its value, and is not read
		"edit clerk on false", "0",
		"view boss", "0 on false|t \"a b\" must|q blank|h blank must missing|z blank|",
		"submit clerk", "0 on false|t \"a b\"|",
		"edit boss s 5", "5", "edit clerk n 5", "5",
		"edit clerk on true", "0",
		"view boss", "0 on true|n 4 must|t \"a b\" must|s -1|q 3|h \"a b-1\"|z blank|",
		"edit clerk on blank", "0",
		"view clerk", "0 on blank|t \"a b\" must|q blank|z blank|")
}

func TestRunEveryCode(t *testing.T) {
	wantRun(t, desk,
		// 1: the kind, or too few parts
		"", "1", " ", "1", "look clerk", "1", "View clerk", "1", "viewclerk", "1", " view clerk", "1", "edit", "1", "edit ", "1", "edit clerk", "1", "edit clerk ", "1", "edit clerk t", "1", "view", "1", "errors", "1", "submit", "1", "export", "1",
		"next", "1", "next clerk", "1", "prev", "1", "prev clerk", "1", "edit\tclerk\tt\t1", "1", "views clerk", "1", "vie clerk", "1", "\"view\" clerk", "1", "export\r", "1", "next\x00clerk t", "1",
		// 2
		"view nobody", "2", "view ", "2", "view  clerk", "2", "view clerk ", "2", "view clerk boss", "2", "view low", "2", "view Clerk", "2", "view clerk\r", "2", "errors x", "2", "errors ", "2", "submit x", "2", "submit ", "2", "export x", "2", "export ", "2", "export clerk boss", "2",
		"edit nobody t \"a\"", "2", "edit  t \"a\"", "2", "next nobody t", "2", "next  t", "2", "prev nobody t", "2", "prev  t", "2", "edit cler t \"a\"", "2",
		// 3
		"edit clerk x 1", "3", "edit clerk  1", "3", "edit clerk s 1", "3", "edit clerk h \"a\"", "3", "next clerk x", "3", "next clerk ", "3", "next clerk s", "3", "prev clerk h", "3", "prev clerk x", "3", "next clerk t ", "3", "next clerk t t", "3", "prev clerk  t", "3", "next boss x", "3",
		// 4
		"edit boss on true", "4", "edit clerk q 1", "4", "edit boss h \"a\"", "4", "edit clerk z 1", "4", "edit boss z 1", "4",
		// 5
		"edit clerk n 1", "5", "edit boss s 1", "5",
		// 6
		"edit clerk t ", "6", "edit clerk t a", "6", "edit clerk t \"a", "6", "edit clerk t \"a\" ", "6", "edit clerk t  \"a\"", "6", "edit clerk t !1", "6", "edit clerk t 01", "6", "edit clerk t \"a\"\r", "6", "edit clerk t \"a\"b\"", "6", "edit clerk t ?", "6", "edit clerk t \""+long(1001)+"\"", "6",
		// 7
		"edit clerk t 1", "7", "edit clerk t true", "7", "edit clerk on 1", "7", "edit clerk on \"true\"", "7",
		// 8 and 9
		"submit clerk", "8 t blank must missing|", "next clerk t", "9", "prev clerk on", "9", "next boss z", "9",
		// none of these has left a trace
		"export boss", "0", "view clerk", "0 on blank|t blank must missing|q blank|z blank|",
		// 0
		"edit clerk t \""+long(1000)+"\"", "0", "edit clerk t \" a  b \"", "0", "edit clerk t blank", "0", "edit boss t \"\"", "0", "next clerk on", "0 t", "export boss", "0 1 clerk t \""+long(1000)+"\"|2 clerk t \" a  b \"|3 clerk t blank|4 boss t \"\"|")
}

// Of two codes that meet in one line the first is given.
func TestRunTwoCodes(t *testing.T) {
	wantRun(t, desk,
		// 1 and what is wrong with the parts that are there
		"look nobody", "1", "edit nobody", "1", "edit nobody x", "1", "edit clerk x", "1", "edit clerk s", "1", "edit boss on", "1", "edit clerk n", "1", "next nobody", "1",
		// 2 and 3, 5, 6, 7, 9
		"edit nobody x \"a\"", "2", "next nobody x", "2", "prev nobody ", "2", "edit nobody n 1", "2", "edit nobody t a", "2", "edit nobody t 1", "2", "next nobody z", "2", "edit nobody x a", "2",
		// 3 and 4, 5, 6, 7, 9
		"edit clerk h \"a\"", "3", "edit clerk s 1", "3", "edit clerk x a", "3", "edit clerk s a", "3", "edit clerk s true", "3", "edit clerk h 1", "3", "next clerk s", "3", "next clerk h", "3", "prev clerk s", "3",
		// 4 and 5, 6, 7
		"edit boss n 1", "4", "edit boss on a", "4", "edit clerk q a", "4", "edit boss on 1", "4", "edit clerk z true", "4", "edit boss n a", "4", "edit boss n true", "4", "edit boss h 1", "4",
		// 5 and 6, 7
		"edit clerk n a", "5", "edit clerk n ", "5", "edit clerk n true", "5", "edit boss s \"\"", "5", "edit boss s !1", "5",
		// 6 stands before 7: what can't be read fits no field
		"edit clerk on !1", "6", "edit clerk on tru", "6",
		"export boss", "0")
}

func TestRunLines(t *testing.T) {
	count := func(script string) int {
		d, answers := impl.Run(desk, script)
		if d != (impl.Diag{}) {
			t.Errorf("%.100q: %v", script, d)
		}
		return len(answers)
	}
	for script, want := range map[string]int{"": 0, "\n": 1, "\n\n": 2, "x": 1, "x\n": 1, "\nx": 2, "\nx\n": 2, "x\n\n": 2, "x\n\ny": 3, "x\r\ny": 2, "x\ry": 1, "x\x00y\u2028z\vw\f": 1, " ": 1, " \n": 1} {
		if got := count(script); got != want {
			t.Errorf("%q: %d answers, want %d", script, got, want)
		}
	}
	d, answers := impl.Run(desk, "\n\nedit clerk on true\n\nexport clerk\n\n")
	if got := asText(answers); d != (impl.Diag{}) || !slices.Equal(got, []string{"1", "1", "0", "1", "0 1 clerk on true|", "1"}) {
		t.Errorf("empty lines: %v and %q", d, got)
	}
}

func TestRunAtItsLimits(t *testing.T) {
	// bytes
	edit := "edit clerk t \"" + long(1000) + "\"\n"
	script := strings.Repeat(edit, 59)
	script += "edit clerk t \"" + long(impl.MaxScript-len(script)-len("edit clerk t \"\"\nexport clerk")) + "\"\nexport clerk"
	if len(script) != impl.MaxScript {
		t.Fatalf("%d bytes", len(script))
	}
	d, answers := impl.Run(desk, script)
	want := ""
	for i, line := range strings.Split(script, "\n")[:60] {
		want += fmt.Sprint(i+1, strings.TrimPrefix(line, "edit"), "\n")
	}
	if d != (impl.Diag{}) || len(answers) != 61 || answers[60] != (impl.Answer{Text: want}) {
		t.Errorf("%v and %d answers", d, len(answers))
	}
	wantRefusedRun(t, desk, script+"\n", 30, 0)
	wantRefusedRun(t, desk, script+"x", 30, 0)
	wantRefusedRun(t, desk, strings.Repeat("x", 60001), 30, 0)
	wantRefusedRun(t, desk, strings.Repeat("\n", 60001), 30, 0)
	wantRefusedRun(t, desk, strings.Repeat("x", 1000000), 30, 0)
	// lines
	for _, script := range []string{strings.Repeat("\n", 4000), strings.Repeat("view boss\n", 4000), strings.Repeat("view boss\n", 3999) + "view boss", strings.Repeat("\n", 3999) + "x"} {
		d, answers := impl.Run(desk, script)
		if d != (impl.Diag{}) || len(answers) != 4000 {
			t.Errorf("%.20q: %v and %d answers", script, d, len(answers))
		}
	}
	wantRefusedRun(t, desk, strings.Repeat("\n", 4001), 31, 0)
	wantRefusedRun(t, desk, strings.Repeat("\n", 4000)+"x", 31, 0)
	wantRefusedRun(t, desk, strings.Repeat("view boss\n", 4001), 31, 0)
	wantRefusedRun(t, desk, strings.Repeat("view boss\n", 4000)+" ", 31, 0)
	wantRefusedRun(t, desk, strings.Repeat("\n", 60000), 31, 0)
}

func TestRunFormsNotLoaded(t *testing.T) {
	for _, c := range []struct {
		form     string
		code, at int
	}{
		{"", 11, 0}, {"label a", 3, 0}, {"label a;_", 2, 8}, {strings.Repeat(" ", 30001), 1, 0}, {"label a;label b;", 13, 0}, {"label a;field x int at a is x;", 15, 1}, {"label a;field x int at a is y;", 9, 1},
		{diamond + "field a int at top;field b int at l is a;", 16, 9},
	} {
		for _, script := range []string{"", "view r", "\n\n", strings.Repeat("x", 60001), strings.Repeat("\n", 4001)} {
			wantRefusedRun(t, c.form, script, c.code, c.at)
		}
	}
	// a form with no roles, and one with no fields, is run like any other
	wantRun(t, "label a;", "view r", "2", "", "1")
	wantRun(t, "label a;field x int at a;", "view r", "2", "edit r x 1", "2")
	wantRun(t, "label a;role r at a;", "view r", "0", "errors r", "0", "submit r", "0", "export r", "0", "next r x", "3", "prev r ", "3", "edit r x 1", "3")
	// roles, labels and fields of one name
	wantRun(t, "label edit;role edit at edit;field edit int at edit by edit must not isblank(edit);", "edit edit edit 1", "0", "view edit", "0 edit 1 must|", "next edit edit", "9", "export edit", "0 1 edit edit 1|")
}

// Rows that watch, feed and hide each other, edited again and again.
func TestRunEditsAgain(t *testing.T) {
	const form = "label p;role r at p;field a int at p by r valid a < b says \"a\" must b = 1;field b int at p by r valid a < b says \"b\";field c int at p is a + b when a <> 9;field d int at p is orelse(c, 0) must c = 3;field e text at p by r when d = 3 valid len(e) = d says \"e\";"
	wantRun(t, form,
		"edit r b 1", "0", "view r", "0 a blank must missing|b 1|d 0|",
		"edit r a 1", "0", "view r", "0 a 1 must bad \"a\"|b 1 bad \"b\"|c 2|d 2|",
		"edit r b 2", "0", "view r", "0 a 1|b 2|c 3|d 3 must|e blank|",
		"edit r e \"xy\"", "0", "errors r", "0 e \"xy\" bad \"e\"|",
		"edit r e \"xyz\"", "0", "submit r", "0 a 1|b 2|c 3|d 3|e \"xyz\"|",
		"edit r a 9", "0", "view r", "0 a 9 bad \"a\"|b 2 bad \"b\"|d 0|",
		"edit r e \"q\"", "5",
		"edit r a 1", "0", "edit r a 1", "0", "view r", "0 a 1|b 2|c 3|d 3 must|e \"xyz\"|",
		"edit r a 9223372036854775807", "0", "view r", "0 a 9223372036854775807 bad \"a\"|b 2 bad \"b\"|c !2 error|d !2 error|",
		"edit r a blank", "0", "view r", "0 a blank|b 2|d 0|",
		"export r", "0 1 r b 1|2 r a 1|3 r b 2|4 r e \"xy\"|5 r e \"xyz\"|6 r a 9|7 r a 1|8 r a 1|9 r a 9223372036854775807|10 r a blank|")
}

// A form that is as great as can be, with each edit going through all of it.
func TestRunGreatForm(t *testing.T) {
	form := "label p;role r at p;field a int at p by r;" + repeated("field x# int at p is a + # valid x# < 150 says \"\";", 99) + repeated("field y# int at p is x# * 2 when x# < 100;", 99) + "field z int at p is x98 + orelse(y98, 1);"
	script := strings.Builder{}
	want := []string{}
	for i := range 1300 {
		n := i % 60
		fmt.Fprintf(&script, "edit r a %d\nerrors r\nprev r z\n", n)
		errors := ""
		for k := range 99 {
			if n+k >= 150 {
				errors += fmt.Sprintf("x%d %d bad \"\"|", k, n+k)
			}
		}
		want = append(want, "0", strings.TrimSuffix("0 "+errors, " "), "0 a")
	}
	d, answers := impl.Run(form, script.String())
	if got := asText(answers); d != (impl.Diag{}) || !slices.Equal(got, want) {
		t.Errorf("%v and %.300q, want %.300q", d, got, want)
	}
	_, answers = impl.Run(form, "edit r a 1\nedit r a 2\nsubmit r")
	lines := strings.Split(answers[2].Text, "\n")
	// y98 is not relevant, as x98 is 100
	if !slices.Equal(lines[len(lines)-4:], []string{"y96 196", "y97 198", "z 101", ""}) {
		t.Errorf("%q", lines[len(lines)-4:])
	}
}

func wantRunAsPlain(t *testing.T, form string, script string) []impl.Answer {
	t.Helper()
	wantDiag, want := plainRun(form, script)
	d, got := impl.Run(form, script)
	if d != wantDiag || !slices.Equal(got, want) {
		t.Fatalf("%q\n%q\n%v %q, want\n%v %q", form, script, d, asText(got), wantDiag, asText(want))
	}
	return got
}

// Promise 14, over mixed forms and scripts.
func TestRunMixed(t *testing.T) {
	m := mixer(54)
	seen := map[string]int{}
	for range 500 {
		f := mixedSound(&m, mixedLattice(&m), 1+m.below(8))
		form := plainCanonical(f)
		script := mixedScript(&m, f, m.below(40))
		if m.below(3) == 0 {
			script = strings.TrimSuffix(script, "\n")
		}
		lines := plainLines(script)
		for i, a := range wantRunAsPlain(t, form, script) {
			kind, _ := plainStep(lines[i])
			seen[fmt.Sprint(kind, " ", a.Code)]++
			if a.Text != "" {
				seen[kind+" with text"]++
			}
		}
	}
	for _, what := range []string{" 1", "edit 0", "edit 2", "edit 3", "edit 4", "edit 5", "edit 7", "view 0", "view 2", "errors 0", "submit 0", "submit 8", "export 0", "next 0", "next 2", "next 3", "next 9", "prev 0", "prev 3", "prev 9",
		"view with text", "errors with text", "submit with text", "export with text"} {
		if seen[what] < 20 {
			t.Errorf("seen: %v", seen)
		}
	}
	if seen["edit 6"] == 0 {
		t.Errorf("seen: %v", seen)
	}
}

// The same where hardly any form is sound, and few scripts keep their limits.
func TestRunMixedRefused(t *testing.T) {
	m := mixer(55)
	seen := map[int]int{}
	for range 600 {
		f := mixedFlow(&m, mixedLattice(&m), m.below(5))
		form, script := plainCanonical(f), "view r0\n"
		if m.below(3) == 0 {
			tokens, _ := plainTokens(form)
			form = spaced(&m, changed(&m, tokens))
		}
		switch m.below(4) {
		case 0:
			script = strings.Repeat("\n", 3999+m.below(3))
		case 1:
			script = strings.Repeat("x", 59999+m.below(3))
		}
		wantRunAsPlain(t, form, script)
		d, _ := impl.Run(form, script)
		seen[d.Code]++
	}
	for _, code := range []int{0, 3, 16, 30, 31} {
		if seen[code] < 10 {
			t.Errorf("codes seen: %v", seen)
		}
	}
}
