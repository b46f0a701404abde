package tests

import (
	"fmt"
	"slices"
	"strings"
	"testing"

	"loop.example/s0011/impl"
)

func wantForm(t *testing.T, text string, want impl.Form) {
	t.Helper()
	got, d := impl.ParseForm(text)
	if d != (impl.Diag{}) || !sameForm(got, want) {
		t.Errorf("%.300q: %v and %.300v, want %.300v", text, d, got, want)
	}
}

func wantFault(t *testing.T, text string, code int, at int) {
	t.Helper()
	got, d := impl.ParseForm(text)
	if d.Code != code || d.At != at {
		t.Errorf("%.300q: %v, want code %d at %d", text, d, code, at)
	}
	if code != 0 && !sameForm(got, impl.Form{}) {
		t.Errorf("%.300q: the form beside code %d is not the zero one", text, code)
	}
}

func wantFormAsPlain(t *testing.T, text string) int {
	t.Helper()
	want, wantDiag := plainParseForm(text)
	got, d := impl.ParseForm(text)
	if d != wantDiag || !sameForm(got, want) {
		t.Errorf("%.600q: %v and %v, want %v and %v", text, d, got, wantDiag, want)
	}
	return d.Code
}

// repeated writes one statement for each number below count, with the number in place of #.
func repeated(statement string, count int) string {
	var out strings.Builder
	for i := range count {
		out.WriteString(strings.ReplaceAll(statement, "#", fmt.Sprint(i)))
	}
	return out.String()
}

func TestFormWrittenOut(t *testing.T) {
	wantForm(t, "", impl.Form{})
	wantForm(t, " \n \n", impl.Form{})
	wantForm(t, "label low;", impl.Form{Labels: []string{"low"}})
	wantForm(t, "label b;label a;below a b;below b a;below a a;below a b;", impl.Form{Labels: []string{"b", "a"}, Below: pairsOf(1, 0, 0, 1, 1, 1, 1, 0)})
	wantForm(t, "label a; label b; role x at b; role a at a;", impl.Form{Labels: []string{"a", "b"}, Roles: []impl.Role{{Name: "x", Label: 1}, {Name: "a"}}})
	wantForm(t, "field a int at auto; field b bool at auto; field c text at auto;",
		impl.Form{Fields: []impl.Field{{Name: "a", Type: 1, Label: -1}, {Name: "b", Type: 2, Label: -1}, {Name: "c", Type: 3, Label: -1}}})
	wantForm(t, "label a; label b; field x text at b; field a text at a;",
		impl.Form{Labels: []string{"a", "b"}, Fields: []impl.Field{{Name: "x", Type: 3, Label: 1}, {Name: "a", Type: 3}}})
	wantForm(t, "label a; role p at a; role q at a; role r at a; field x int at a by r by p;",
		impl.Form{Labels: []string{"a"}, Roles: []impl.Role{{Name: "p"}, {Name: "q"}, {Name: "r"}}, Fields: []impl.Field{{Name: "x", Type: 1, By: []int{2, 0}}}})
	one, two := []impl.Node{constant(whole(1))}, []impl.Node{field("x"), operator(impl.OpNeg)}
	wantForm(t, `field x int at auto is 1 when -x valid 1 says "no; never" must -x;`,
		impl.Form{Fields: []impl.Field{{Name: "x", Type: 1, Label: -1, Is: one, When: two, Valid: one, Says: "no; never", Must: two}}})
	wantForm(t, `field x int at auto valid -x says "";`, impl.Form{Fields: []impl.Field{{Name: "x", Type: 1, Label: -1, Valid: two}}})
	wantForm(t, `field x int at auto is y; field y int at auto is x;`,
		impl.Form{Fields: []impl.Field{{Name: "x", Type: 1, Label: -1, Is: []impl.Node{field("y")}}, {Name: "y", Type: 1, Label: -1, Is: []impl.Node{field("x")}}}})
	wantForm(t, `label if;role if at if;field if int at if by if when if(if,if,if)valid if says"if"must if;`,
		impl.Form{Labels: []string{"if"}, Roles: []impl.Role{{Name: "if"}}, Fields: []impl.Field{{Name: "if", Type: 1, By: []int{0},
			When: []impl.Node{field("if"), field("if"), field("if"), operator(impl.OpIf)}, Valid: []impl.Node{field("if")}, Says: "if", Must: []impl.Node{field("if")}}}})
}

func TestFormOfTheDocument(t *testing.T) {
	text := "label low;\nlabel high;\nbelow low high;\nrole clerk at low;\nrole boss at high;\n" +
		"field a int at low by clerk by boss valid 0 <= a says \"negative\" must true;\nfield s int at high by boss;\nfield sum int at auto is a + orelse(s, 0);\n"
	form := impl.Form{Labels: []string{"low", "high"}, Below: pairsOf(0, 1), Roles: []impl.Role{{Name: "clerk"}, {Name: "boss", Label: 1}}, Fields: []impl.Field{
		{Name: "a", Type: 1, By: []int{0, 1}, Valid: []impl.Node{constant(whole(0)), field("a"), operator(impl.OpLe)}, Says: "negative", Must: []impl.Node{constant(yes())}},
		{Name: "s", Type: 1, Label: 1, By: []int{1}},
		{Name: "sum", Type: 1, Label: -1, Is: []impl.Node{field("a"), field("s"), constant(whole(0)), operator(impl.OpElse), operator(impl.OpAdd)}},
	}}
	wantForm(t, text, form)
	wantPrintedForm(t, form, text)
	wantForm(t, strings.ReplaceAll(text, "\n", ""), form)
	wantForm(t, strings.ReplaceAll(text, " ", "\n"), form)
}

func TestFormCountsAtTheirLimits(t *testing.T) {
	labels := repeated("label l#;", 32)
	wantFault(t, labels, 0, 0)
	wantFault(t, labels+"label z;", 5, 32)
	wantFault(t, labels+"below l0 l31;", 0, 0)
	belows := "label a;" + repeated("below a a;", 256)
	wantFault(t, belows, 0, 0)
	wantFault(t, belows+"below a a;", 5, 257)
	wantFault(t, belows+"role r at a;", 0, 0)
	roles := "label a;" + repeated("role r# at a;", 64)
	wantFault(t, roles, 0, 0)
	wantFault(t, roles+"role z at a;", 5, 65)
	wantFault(t, roles+"field x int at a by r63;", 0, 0)
	fields := repeated("field f# int at auto;", 200)
	wantFault(t, fields, 0, 0)
	wantFault(t, fields+"field z int at auto;", 5, 200)
	by := "label a;" + repeated("role r# at a;", 64) + "field x int at a" + repeated(" by r#", 64) + ";"
	form, d := impl.ParseForm(by)
	if d.Code != 0 || len(form.Fields) != 1 || len(form.Fields[0].By) != 64 {
		t.Errorf("64 roles after by: %v and %v", d, form.Fields)
	}
	all := repeated("label l#;", 32) + repeated("below l0 l#;", 32) + repeated("role r# at l1;", 64) + repeated("field f# int at auto is f0;", 200)
	wantFormAsPlain(t, all)
	wantFault(t, all+"field f0 int at auto;", 5, 328)
}

func TestFormTextAtItsLimit(t *testing.T) {
	for _, text := range []string{"", "label a;", "field x int at auto is x;"} {
		padded := text + strings.Repeat(" ", impl.MaxFormText-len(text))
		wantFault(t, padded, 0, 0)
		wantFault(t, padded+" ", 1, 0)
		wantFault(t, "\n"+padded, 1, 0)
	}
	wantFault(t, strings.Repeat("_", 30000), 2, 0)
	wantFault(t, strings.Repeat("_", 30001), 1, 0)
	wantFault(t, strings.Repeat(";", 30000), 3, 0)
	wantFault(t, strings.Repeat(";", 30001), 1, 0)
	wantFault(t, strings.Repeat("a", 1000000), 1, 0)
	// an expression in a form may be long as it is written, as long as its printed text is not
	wantFault(t, "field x int at auto is x"+strings.Repeat(" ", 29000)+"+ 1;", 0, 0)
}

func TestFormBadTokens(t *testing.T) {
	wantFault(t, "_", 2, 0)
	wantFault(t, " _", 2, 1)
	wantFault(t, "\n\n _", 2, 3)
	wantFault(t, "label a; label B;", 2, 15)
	wantFault(t, "label aB;", 2, 7)
	wantFault(t, "label abcdefghijklmnopq;", 2, 6)
	wantFault(t, "label abcdefghijklmnop;", 0, 0)
	wantFault(t, "label a;\tlabel b;", 2, 8)
	wantFault(t, "label a;\r\n", 2, 8)
	wantFault(t, "field x int at auto is 007;", 2, 23)
	wantFault(t, "field x int at auto is 9223372036854775808;", 2, 23)
	wantFault(t, "field x int at auto is 9223372036854775807;", 0, 0)
	wantFault(t, "field x int at auto is x>1;", 2, 24)
	wantFault(t, "field x int at auto is 1.5;", 2, 24)
	wantFault(t, `field x int at auto valid x says "no;`, 2, 33)
	wantFault(t, "field x int at auto valid x says \"no\n\";", 2, 33)
	wantFault(t, `field x int at auto valid x says "é";`, 2, 33)
	wantFault(t, `field x int at auto valid x says "`+long(1000)+`";`, 0, 0)
	wantFault(t, `field x int at auto valid x says "`+long(1001)+`";`, 2, 33)
	wantFault(t, `field x int at auto valid x says "a"b";`, 2, 37)
	// the first of two, and one ahead of or behind every other fault
	wantFault(t, "label a; _ A", 2, 9)
	wantFault(t, "label \"a _ 01", 2, 6)
	wantFault(t, "label a; label a; _", 2, 18)
	wantFault(t, "at at at; _", 2, 10)
	wantFault(t, "field x int at auto is y; _", 2, 26)
	wantFault(t, "_ at at at;", 2, 0)
}

func TestFormNotAStatement(t *testing.T) {
	good := "label a;role r at a;"
	for _, s := range []string{
		"", "a", "1", `"a"`, "(", "label", "label label", "label a b", "label b c", "label 1", `label "b"`, "label (b)", "labels b", "b label", "label b,", "label at", "label auto", "label true", "label b at a",
		"below", "below a", "below a a a", "below a at", "below at a", "below a, a", "below a 1", "below 1 a", "below a auto",
		"role", "role b", "role b at", "role b a", "role at a", "role b at a a", "role b at auto", "role b at at", "role by at a", "role b by a", "role 1 at a", `role b at "a"`,
		"field", "field x", "field x int", "field x int at", "field x int a", "field x at a", "field int at a", "field x num at a", "field x int int at a", "field at int at a",
		"field 1 int at a", "field x int at 1", "field x int at by", "field x int at int", "field x int at auto a", "field x int at auto auto", "field x int by r at a", `field x "int" at a`, "field x label at a",
		"field x int at a by", "field x int at a by by", "field x int at a by r r", "field x int at a by r, r", "field x int at a by auto", "field x int at a r", "field x int at a by 1", "field x int at a by is",
		"field x int at a by r is 1", "field x int at a by r by r is 1", "field x int at a is 1 by r", "field x int at a when 1 by r", "field x int at a must 1 by r",
		"field x int at a is", "field x int at a is 1 2", "field x int at a is is 1", "field x int at a is 1 is 2", "field x int at a is 1 says \"n\"", "field x int at a is (1", "field x int at a is 1)", "field x int at a is at",
		"field x int at a is 1 = 1 = 1", "field x int at a is min(1)", "field x int at a is foo(1)", "field x int at a is 1 +", "field x int at a is label", "field x int at a is when", "field x int at a is x int",
		"field x int at a when", "field x int at a when 1 when 1", "field x int at a when 1 is 1", "field x int at a when must 1",
		"field x int at a valid 1", "field x int at a valid says \"n\"", "field x int at a valid 1 says", "field x int at a valid 1 says n", "field x int at a valid 1 says 1", "field x int at a valid 1 says \"n\" \"n\"",
		"field x int at a valid 1 says \"n\" says \"n\"", "field x int at a valid 1 says \"n\" & \"n\"", "field x int at a valid 1 says (\"n\")", "field x int at a valid 1 must 1 says \"n\"", "field x int at a valid 1 must 1",
		"field x int at a valid 1 valid 1 says \"n\"", "field x int at a valid 1 says \"n\" valid 1 says \"n\"", "field x int at a valid 1 says \"n\" when 1", "field x int at a valid 1 says \"n\" is 1",
		"field x int at a valid 1 says true", "field x int at a valid 1 says blank", "field x int at a valid 1 when 1 says \"n\"",
		"field x int at a says \"n\"", "field x int at a says \"n\" must 1", "field x int at a must", "field x int at a must 1 must 1", "field x int at a must 1 when 1", "field x int at a must 1 valid 1 says \"n\"", "field x int at a must 1 is 1",
		"field x int at a is " + strings.Repeat("(", 65) + "1" + strings.Repeat(")", 65), "field x int at a is " + strings.Repeat("len(", 65) + "1" + strings.Repeat(")", 65),
		"field x int at a must " + strings.Repeat("(", 20000),
	} {
		wantFault(t, good+s+";", 3, 2)
		wantFault(t, s+";"+good, 3, 0)
		if s != "" {
			wantFault(t, good+s, 3, 2)
		}
	}
}

func TestFormTokensAfterTheLastSemicolon(t *testing.T) {
	wantFault(t, "label a", 3, 0)
	wantFault(t, "label a; label b", 3, 1)
	wantFault(t, "label a; b", 3, 1)
	wantFault(t, "label a;;", 3, 1)
	wantFault(t, ";", 3, 0)
	wantFault(t, ";;", 3, 0)
	wantFault(t, "label a; field x int at a is 1", 3, 1)
	wantFault(t, "label a; label a; label", 6, 1)
	wantFault(t, "field x int at auto is y; label", 3, 1)
	wantFault(t, "label a; role r at a; label b", 3, 2)
}

func TestFormOutOfOrder(t *testing.T) {
	statements := []string{"label #;", "below a a;", "role # at a;", "field # int at a;"}
	for first := range statements {
		for second := range statements {
			text := "label a;" + strings.ReplaceAll(statements[first], "#", "p") + strings.ReplaceAll(statements[second], "#", "q")
			if second < first {
				wantFault(t, text, 4, 2)
			} else {
				wantFault(t, text, 0, 0)
			}
		}
	}
	wantFault(t, "field x int at auto; label a;", 4, 1)
	wantFault(t, "label a; field x int at auto; field y int at auto; role r at a;", 4, 3)
}

func TestFormNamesTwice(t *testing.T) {
	wantFault(t, "label a; label a;", 6, 1)
	wantFault(t, "label a; label b; label a;", 6, 2)
	wantFault(t, "label a; role r at a; role r at a;", 6, 2)
	wantFault(t, "label a; label b; role r at a; role s at a; role r at b;", 6, 4)
	wantFault(t, "field x int at auto; field x text at auto;", 6, 1)
	wantFault(t, "label a; role a at a; field a int at a by a;", 0, 0)
	wantFault(t, "label a; role r at a; field x int at a by r by r;", 6, 2)
	wantFault(t, "label a; role r at a; role s at a; field x int at a by r by s by r;", 6, 3)
	wantFault(t, "label a; role r at a; field x int at a by r; field y int at a by r;", 0, 0)
	wantFault(t, "label a; below a a; below a a;", 0, 0)
	wantFault(t, "field x int at auto by r"+strings.Repeat(" by r", 5000)+";", 6, 0)
}

func TestFormNotDeclared(t *testing.T) {
	wantFault(t, "below a a;", 7, 0)
	wantFault(t, "label a; below a b;", 7, 1)
	wantFault(t, "label a; below b a;", 7, 1)
	wantFault(t, "role r at a;", 7, 0)
	wantFault(t, "label a; role r at r;", 7, 1)
	wantFault(t, "label a; role r at a; role s at r;", 7, 2)
	wantFault(t, "label a; field x int at b;", 7, 1)
	wantFault(t, "field x int at x;", 7, 0)
	wantFault(t, "label a; field x int at a by r;", 7, 1)
	wantFault(t, "label a; field x int at a by a;", 7, 1)
	wantFault(t, "label a; role r at a; field x int at r;", 7, 2)
	wantFault(t, "label a; role r at a; field x int at a by r by s;", 7, 2)
	wantFault(t, "field x int at auto by r;", 7, 0)
	wantFault(t, "field x int at auto by r by s by t;", 7, 0)
}

var tooDeep = strings.Repeat("-", 64) + "1"

func TestFormRulesNotValid(t *testing.T) {
	notValid := []string{tooDeep, "1" + strings.Repeat("+1", 64), strings.Repeat("len(", 64) + "1" + strings.Repeat(")", 64), strings.ReplaceAll(texted(4001).text(), " ", ""), texted(4001).text(),
		bushy(impl.OpAdd, 501).text(), strings.Repeat("-", 20000) + "1"}
	for _, e := range notValid {
		wantFault(t, "field y int at auto; field x int at auto is "+e+";", 8, 1)
		wantFault(t, "field x int at auto when "+e+";", 8, 0)
		wantFault(t, "field x int at auto valid "+e+" says \"\";", 8, 0)
		wantFault(t, "field x int at auto must "+e+";", 8, 0)
		wantFault(t, "field x int at auto is 1 when 1 valid 1 says \"n\" must "+e+";", 8, 0)
	}
	for _, e := range []string{tooDeep[1:], "1" + strings.Repeat("+1", 63), strings.Repeat("len(", 63) + "1" + strings.Repeat(")", 63), texted(4000).text(), strings.Repeat("(", 64) + "1" + strings.Repeat(")", 64)} {
		wantFault(t, "field x int at auto is "+e+";", 0, 0)
		wantFault(t, "field x int at auto when "+e+" must "+e+";", 0, 0)
	}
	full := branch(impl.OpNeg, bushy(impl.OpAdd, 500)).text()
	wantFault(t, "field a int at auto is "+full+";", 0, 0)
	wantFault(t, "field a int at auto is -"+full+";", 8, 0)
}

func TestFormReadsWhatIsNoField(t *testing.T) {
	wantFault(t, "field x int at auto is y;", 9, 0)
	wantFault(t, "field x int at auto when y;", 9, 0)
	wantFault(t, "field x int at auto valid y says \"\";", 9, 0)
	wantFault(t, "field x int at auto must y;", 9, 0)
	wantFault(t, "field x int at auto is 1 when x valid x says \"\" must x + min(x, y);", 9, 0)
	wantFault(t, "label a; below a a; role r at a; field x int at a is x; field y int at a is z;", 9, 4)
	wantFault(t, "label a; role r at a; field x int at a is r;", 9, 2)
	wantFault(t, "label a; field x int at a is a;", 9, 1)
	wantFault(t, "field x int at auto is y; field y int at auto is z;", 9, 1)
	wantFault(t, "field x int at auto is q; field y int at auto is z;", 9, 0)
	wantFault(t, "field x int at auto is min; field y int at auto;", 9, 0)
	wantFault(t, "field x int at auto is min; field min int at auto;", 0, 0)
	wantFault(t, "field x int at auto is x + y + z; field y int at auto; field z int at auto is x;", 0, 0)
	// every fault of a later statement comes first
	wantFault(t, "field x int at auto is y; field z int;", 3, 1)
	wantFault(t, "field x int at auto is y; label a;", 4, 1)
	wantFault(t, "field x int at auto is y;"+repeated("field f# int at auto;", 200), 5, 200)
	wantFault(t, "field x int at auto is y; field x int at auto;", 6, 1)
	wantFault(t, "field x int at auto is y; field z int at a;", 7, 1)
	wantFault(t, "field x int at auto is y; field z int at auto is "+tooDeep+";", 8, 1)
}

// In each statement two codes meet, and the lower one is given.
func TestFormTwoCodesInOneStatement(t *testing.T) {
	labels, roles := repeated("label l#;", 32), "label a;"+repeated("role r# at a;", 64)
	belows, fields := "label a;"+repeated("below a a;", 256), repeated("field f# int at auto;", 200)
	for _, c := range []struct {
		before, statement string
		code, at          int
	}{
		{"label a; role r at a;", "label b c;", 3, 2},
		{labels, "label z z;", 3, 32},
		{belows, "below a;", 3, 257},
		{roles, "role z at;", 3, 65},
		{fields, "field z int;", 3, 200},
		{"label a;", "label a a;", 3, 1},
		{"label a; role r at a;", "field x int at a by r by r by;", 3, 2},
		{"label a;", "role r at b c;", 3, 1},
		{"label a;", "field x int at b says;", 3, 1},
		{"", "field x int at auto is " + tooDeep + " is 1;", 3, 0},
		{"", "field x int at auto is " + tooDeep + " when ;", 3, 0},
		{"", "field x int at auto when " + tooDeep + " must (;", 3, 0},
		{labels + "role r at l0;", "label z;", 4, 33},
		{belows + "role r at a;", "below a a;", 4, 258},
		{roles + "field x int at a;", "role z at a;", 4, 66},
		{"label a; below a a;", "label a;", 4, 2},
		{"label a; role r at a; field x int at a;", "role r at a;", 4, 3},
		{"label a; role r at a;", "below a b;", 4, 2},
		{"field x int at auto;", "role r at a;", 4, 1},
		{labels, "label l0;", 5, 32},
		{roles, "role r0 at a;", 5, 65},
		{fields, "field f0 int at auto;", 5, 200},
		{belows, "below a b;", 5, 257},
		{roles, "role z at z;", 5, 65},
		{fields, "field z int at a by r;", 5, 200},
		{fields, "field z int at auto is " + tooDeep + ";", 5, 200},
		{"label a; role r at a;", "role r at b;", 6, 2},
		{"label a; field x int at a;", "field x int at b;", 6, 2},
		{"label a;", "field x int at a by r by r;", 6, 1},
		{"label a;", "field x int at b by r by r;", 6, 1},
		{"label a; role r at a; field x int at a;", "field x int at a by s;", 6, 3},
		{"field x int at auto;", "field x int at auto is " + tooDeep + ";", 6, 1},
		{"label a; role r at a;", "field x int at a by r by r must " + tooDeep + ";", 6, 2},
		{"label a;", "field x int at b is " + tooDeep + ";", 7, 1},
		{"label a;", "field x int at a by r when " + tooDeep + ";", 7, 1},
		{"", "field x int at auto is y when " + tooDeep + ";", 8, 0},
	} {
		wantFault(t, c.before, 0, 0)
		wantFault(t, c.before+c.statement, c.code, c.at)
		wantFormAsPlain(t, c.before+c.statement)
	}
}

// Of two statements that fail the earlier one is told, whichever code is lower.
func TestFormTwoStatementsFail(t *testing.T) {
	before := "label a; below a a; role r at a; field f int at a;"
	failing := map[int]string{3: "field x;", 4: "label b;", 6: "field f int at a;", 7: "field x int at b;", 8: "field x int at a is " + tooDeep + ";"}
	for first, s := range failing {
		for _, u := range failing {
			wantFault(t, before+s+u, first, 4)
			wantFault(t, before+"field g int at a;"+s+"field h int at a;"+u, first, 5)
		}
	}
	full := repeated("field f# int at auto;", 200)
	wantFault(t, full+"field z int at auto; field;", 5, 200)
	wantFault(t, full+"field; field z int at auto;", 3, 200)
}

// roomy has a canonical text of the given size, which can be written with fewer bytes.
func roomy(size int) impl.Form {
	f := impl.Form{Labels: []string{"a"}, Fields: []impl.Field{{Name: "a", Type: 3, Valid: []impl.Node{field("a")}}}}
	for i := range 40 {
		f.Fields = append(f.Fields, impl.Field{Name: fmt.Sprint("f", i), Type: 3, Valid: bushy(impl.OpCat, 40).postfix()})
	}
	missing := size - len(plainCanonical(f))
	for i := range f.Fields {
		part := min(missing, impl.MaxText)
		f.Fields[i].Says = long(part)
		missing -= part
	}
	return f
}

func TestFormCanonicalTextAtItsLimit(t *testing.T) {
	for _, size := range []int{29999, 30000, 30001, 30002, 30100} {
		f := roomy(size)
		text := plainCanonical(f)
		if len(text) != size {
			t.Fatalf("%d bytes, want %d", len(text), size)
		}
		tight := strings.NewReplacer(" & ", "&", ";\n", ";").Replace(text)
		if len(tight) > impl.MaxFormText {
			t.Fatalf("tight: %d bytes", len(tight))
		}
		if size <= impl.MaxFormText {
			wantForm(t, text, f)
			wantForm(t, tight, f)
			wantPrintedForm(t, f, text)
			continue
		}
		wantFault(t, text, 1, 0)
		wantFault(t, tight, 10, 0)
		wantNotValidForm(t, "a canonical text that is too long", f)
		// every other fault comes first
		wantFault(t, tight+"_", 2, len(tight))
		wantFault(t, tight+"field", 3, len(f.Fields)+1)
		wantFault(t, tight+"label b;", 4, len(f.Fields)+1)
		wantFault(t, tight+"field a int at a;", 6, len(f.Fields)+1)
		wantFault(t, tight+"field b int at b;", 7, len(f.Fields)+1)
		wantFault(t, tight+"field b int at a is "+tooDeep+";", 8, len(f.Fields)+1)
		wantFault(t, tight+"field b int at a is z;", 9, len(f.Fields)+1)
	}
}

// mixedForm is valid but for its size, which no one asks to be great.
func mixedForm(m *mixer) impl.Form {
	pick := func(count int) []string {
		names := []string{}
		for _, i := range mixedNames(m, len(someNames))[:count] {
			names = append(names, someNames[i])
		}
		return names
	}
	f := impl.Form{Labels: pick(m.below(5))}
	label := func() int { return m.below(len(f.Labels)+1) - 1 }
	if n := len(f.Labels); n > 0 {
		for range m.below(4) {
			f.Below = append(f.Below, impl.Pair{Lo: m.below(n), Hi: m.below(n)})
		}
		for _, name := range pick(m.below(4)) {
			f.Roles = append(f.Roles, impl.Role{Name: name, Label: m.below(n)})
		}
	}
	names := pick(m.below(5))
	rule := func() []impl.Node {
		if m.below(2) == 0 {
			return nil
		}
		return mixedTree(m, names, m.below(5)).postfix()
	}
	for _, name := range names {
		x := impl.Field{Name: name, Type: 1 + m.below(3), Label: label(), Is: rule(), When: rule(), Valid: rule(), Must: rule()}
		if len(x.Valid) > 0 {
			x.Says = mixedText(m, m.below(5))
		}
		if len(x.Is) == 0 && len(f.Roles) > 0 {
			x.By = mixedNames(m, len(f.Roles))[:m.below(len(f.Roles)+1)]
		}
		f.Fields = append(f.Fields, x)
	}
	return f
}

var formTokens = strings.Fields(`label below role field int bool text at auto by is when valid says must and or not true false blank ; ; ; ( ) , + - * = <= 0 1 9223372036854775807 "" "n" a b c x y z min if low high clerk boss nobody`)

// needsGap tells whether two tokens would run into one.
func needsGap(a string, b string) bool {
	tokens, bad := plainTokens(a + b)
	return bad >= 0 || !slices.Equal(tokens, []string{a, b})
}

func spaced(m *mixer, tokens []string) string {
	out := ""
	for i, token := range tokens {
		gap := []string{"", "", " ", "\n", " \n "}[m.below(5)]
		if gap == "" && i > 0 && needsGap(tokens[i-1], token) {
			gap = " "
		}
		out += gap + token
	}
	return out
}

func TestFormMixed(t *testing.T) {
	m := mixer(8)
	for range 2000 {
		f := mixedForm(&m)
		text := plainCanonical(f)
		wantForm(t, text, f)
		tokens, _ := plainTokens(text)
		wantForm(t, spaced(&m, tokens), f)
	}
}

// A mixed form with some tokens changed, taken out, put in, or moved, held against the document's words.
func TestFormNearTexts(t *testing.T) {
	m := mixer(9)
	seen := [11]int{}
	for range 12000 {
		tokens, _ := plainTokens(plainCanonical(mixedForm(&m)))
		for range 1 + m.below(2) {
			tokens = changed(&m, tokens)
		}
		seen[wantFormAsPlain(t, spaced(&m, tokens))]++
	}
	for _, code := range []int{0, 3, 4, 6, 7, 8, 9} {
		if seen[code] < 50 {
			t.Errorf("codes seen: %v", seen)
		}
	}
}

func changed(m *mixer, tokens []string) []string {
	at := m.below(len(tokens) + 1)
	token := formTokens[m.below(len(formTokens))]
	if len(tokens) == 0 || at == len(tokens) {
		return append(tokens, token)
	}
	other := m.below(len(tokens))
	switch m.below(8) {
	case 0:
		return slices.Insert(tokens, at, token)
	case 1:
		return slices.Delete(tokens, at, at+1)
	case 2:
		tokens[at] = token
	case 3:
		tokens[at] = tokens[other]
	case 4:
		tokens[at], tokens[other] = tokens[other], tokens[at]
	case 5:
		if rule := slices.IndexFunc(tokens, func(s string) bool { return slices.Contains([]string{"is", "when", "valid", "must"}, s) }); rule >= 0 {
			return slices.Insert(tokens, rule+1, strings.Split(strings.Repeat("-", 64), "")...)
		}
	default:
		return movedStatement(m, tokens)
	}
	return tokens
}

// movedStatement takes one statement and puts it, or its copy, ahead of another.
func movedStatement(m *mixer, tokens []string) []string {
	statements := [][]string{}
	for len(tokens) > 0 {
		end := slices.Index(tokens, ";") + 1
		if end == 0 {
			end = len(tokens)
		}
		statements = append(statements, tokens[:end])
		tokens = tokens[end:]
	}
	from, to := m.below(len(statements)), m.below(len(statements)+1)
	moved := statements[from]
	statements = slices.Insert(statements, to, moved)
	if m.below(2) == 0 {
		if to <= from {
			from++
		}
		statements = slices.Delete(statements, from, from+1)
	}
	return slices.Concat(statements...)
}

func TestFormNearBytes(t *testing.T) {
	m := mixer(10)
	bytes := " \n();,+-=<>\"0129abxz_AX!\t\x00\x80"
	seen := [11]int{}
	for range 10000 {
		text := plainCanonical(mixedForm(&m)) + ";"
		at := m.below(len(text))
		text = text[:at] + string(bytes[m.below(len(bytes))]) + text[at+m.below(2):]
		text = strings.TrimSuffix(text, ";")
		seen[wantFormAsPlain(t, text)]++
	}
	for _, code := range []int{0, 2, 3, 7, 9} {
		if seen[code] < 50 {
			t.Errorf("codes seen: %v", seen)
		}
	}
}

func TestFormEveryByte(t *testing.T) {
	for b := range 256 {
		s := string([]byte{byte(b)})
		for _, text := range []string{s, "label a" + s + ";", "label " + s + "a;", "label a;" + s, "field x int at auto valid x says \"" + s + "\";", "field x int at auto is x" + s + "x;"} {
			wantFormAsPlain(t, text)
		}
	}
}
