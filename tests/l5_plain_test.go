package tests

import (
	"fmt"
	"regexp"
	"slices"
	"strings"

	"loop.example/s0011/impl"
)

// The tests of chapter 5 hold the program against the document's own words, written out here with everything worked out anew at each step.

func plainFits(x impl.Field, v impl.Value) bool {
	return plainValid(v) && (v == blank() || v.Kind == x.Type)
}

func isInputs(f impl.Form, inputs []impl.Value) bool {
	if len(inputs) != len(f.Fields) {
		return false
	}
	for k, x := range f.Fields {
		if len(x.Is) == 0 && !plainFits(x, inputs[k]) || len(x.Is) > 0 && inputs[k] != blank() {
			return false
		}
	}
	return true
}

func isCells(f impl.Form, cells []impl.Cell) bool {
	return len(cells) == len(f.Fields) && !slices.ContainsFunc(cells, func(c impl.Cell) bool { return !plainValid(c.Val) })
}

func isEntry(f impl.Form, e impl.Entry) bool {
	if e.Role < 0 || e.Role >= len(f.Roles) || e.Field < 0 || e.Field >= len(f.Fields) {
		return false
	}
	return len(f.Fields[e.Field].Is) == 0 && plainFits(f.Fields[e.Field], e.Val)
}

func isSound(f impl.Form) bool { return plainCheck(f) == impl.Diag{} }

func plainGives(f impl.Form, cells []impl.Cell, e *tree) impl.Value {
	switch e.node.Op {
	case impl.OpConst:
		return e.node.Val
	case impl.OpField:
		c := cells[slices.Index(plainNames(f)[3], e.node.Name)]
		if c.Rel {
			return c.Val
		}
		return blank()
	}
	args := []impl.Value{}
	for _, a := range e.args {
		args = append(args, plainGives(f, cells, a))
	}
	return plainApply(e.node.Op, args)
}

// plainFeeds gives Rel and Val of field k over the cells.
func plainFeeds(f impl.Form, inputs []impl.Value, cells []impl.Cell, k int) (bool, impl.Value) {
	x := f.Fields[k]
	rel, val := true, inputs[k]
	if len(x.When) > 0 {
		rel = plainGives(f, cells, plainTree(x.When)) == yes()
	}
	if len(x.Is) > 0 {
		val = plainGives(f, cells, plainTree(x.Is))
		if val.Kind != impl.KBlank && val.Kind != impl.KErr && val.Kind != x.Type {
			val = fault(impl.ErrType)
		}
	}
	return rel, val
}

// plainJudges gives Ok and Must of field k over the cells.
func plainJudges(f impl.Form, cells []impl.Cell, k int) (bool, bool) {
	x := f.Fields[k]
	ok, must := true, false
	if len(x.Valid) > 0 {
		v := plainGives(f, cells, plainTree(x.Valid))
		ok = v == yes() || v == blank()
	}
	if len(x.Must) > 0 {
		must = plainGives(f, cells, plainTree(x.Must)) == yes()
	}
	return ok, must
}

// plainSays is the cell of field k by the rules over the cells.
func plainSays(f impl.Form, inputs []impl.Value, cells []impl.Cell, k int) impl.Cell {
	rel, val := plainFeeds(f, inputs, cells, k)
	ok, must := plainJudges(f, cells, k)
	return impl.Cell{Val: val, Rel: rel, Ok: ok, Must: must}
}

// plainSolved is asked only of a sound form and inputs for it: it lets all rules speak over all cells until they say nothing new.
func plainSolved(f impl.Form, inputs []impl.Value) []impl.Cell {
	cells := make([]impl.Cell, len(f.Fields))
	for {
		next := []impl.Cell{}
		for k := range f.Fields {
			next = append(next, plainSays(f, inputs, cells, k))
		}
		if slices.Equal(next, cells) {
			return cells
		}
		cells = next
	}
}

func plainSolve(f impl.Form, inputs []impl.Value) []impl.Cell {
	if !isSound(f) || !isInputs(f, inputs) {
		return nil
	}
	return plainSolved(f, inputs)
}

func plainUpdate(f impl.Form, inputs []impl.Value, cells []impl.Cell, k int, v impl.Value) []impl.Cell {
	if !isSound(f) || !isInputs(f, inputs) || !isCells(f, cells) || k < 0 || k >= len(f.Fields) || len(f.Fields[k].Is) > 0 || !plainFits(f.Fields[k], v) {
		return nil
	}
	inputs, cells = slices.Clone(inputs), slices.Clone(cells)
	inputs[k] = v
	dirty := plainDirty(f, k)
	for _, j := range dirty {
		cells[j].Rel, cells[j].Val = plainFeeds(f, inputs, cells, j)
	}
	watches := plainReads(f, func(x impl.Field) []impl.Node { return slices.Concat(x.Valid, x.Must) })
	for j := range f.Fields {
		if slices.Contains(dirty, j) || slices.ContainsFunc(dirty, func(i int) bool { return watches[i][j] }) {
			cells[j].Ok, cells[j].Must = plainJudges(f, cells, j)
		}
	}
	return cells
}

// plainSees says at [r][k] whether field k is visible to role r; it is asked only of a sound form.
func plainSees(f impl.Form) [][]bool {
	l, _ := plainLattice(f)
	labels := plainLabels(f)
	sees := [][]bool{}
	for _, role := range f.Roles {
		row := []bool{}
		for k := range f.Fields {
			row = append(row, l.Leq[labels[k]*l.N+role.Label])
		}
		sees = append(sees, row)
	}
	return sees
}

func plainView(f impl.Form, cells []impl.Cell, r int) []impl.Row {
	if !isSound(f) || !isCells(f, cells) || r < 0 || r >= len(f.Roles) {
		return nil
	}
	return plainRows(f, cells, plainSees(f)[r])
}

func plainRows(f impl.Form, cells []impl.Cell, sees []bool) []impl.Row {
	rows := []impl.Row{}
	for k, c := range cells {
		if !c.Rel || !sees[k] {
			continue
		}
		row := impl.Row{Field: k, Val: c.Val, Must: c.Must}
		if c.Must && c.Val == blank() {
			row.Code = 3
		}
		if !c.Ok {
			row.Code, row.Says = 2, f.Fields[k].Says
		}
		if c.Val.Kind == impl.KErr {
			row.Code, row.Says = 1, ""
		}
		rows = append(rows, row)
	}
	return rows
}

func plainNavigate(f impl.Form, cells []impl.Cell, r int, k int, back bool) int {
	if !isSound(f) || !isCells(f, cells) || r < 0 || r >= len(f.Roles) || k < 0 || k >= len(f.Fields) || !plainSees(f)[r][k] {
		return -1
	}
	return plainMove(f, cells, plainSees(f)[r], r, k, back)
}

func plainMove(f impl.Form, cells []impl.Cell, sees []bool, r int, k int, back bool) int {
	before, after := -1, -1
	for j, c := range cells {
		if !c.Rel || !sees[j] || !slices.Contains(f.Fields[j].By, r) {
			continue
		}
		if j < k {
			before = j
		}
		if j > k && after < 0 {
			after = j
		}
	}
	if back {
		return before
	}
	return after
}

// plainWrite is the rule of Export for entries of which none is left out.
func plainWrite(f impl.Form, log []impl.Entry) string {
	out := strings.Builder{}
	for i, e := range log {
		fmt.Fprintf(&out, "%d %s %s %s\n", i+1, f.Roles[e.Role].Name, f.Fields[e.Field].Name, plainShow(e.Val))
	}
	return out.String()
}

func plainSeen(log []impl.Entry, sees []bool) []impl.Entry {
	seen := []impl.Entry{}
	for _, e := range log {
		if sees[e.Field] {
			seen = append(seen, e)
		}
	}
	return seen
}

func plainExport(f impl.Form, log []impl.Entry, r int) string {
	if !isSound(f) || r < 0 || r >= len(f.Roles) || len(log) > impl.MaxSteps || slices.ContainsFunc(log, func(e impl.Entry) bool { return !isEntry(f, e) }) {
		return ""
	}
	return plainWrite(f, plainSeen(log, plainSees(f)[r]))
}

var exportLine = regexp.MustCompile(`(?m)^[0-9]+ ([a-z0-9_]+) ([a-z0-9_]+) (.*)$`)

// plainDecode finds what looks like entries, and then asks whether just those are written as the text is.
func plainDecode(f impl.Form, text string) ([]impl.Entry, bool) {
	if !isSound(f) {
		return nil, false
	}
	log := []impl.Entry{}
	for _, m := range exportLine.FindAllStringSubmatch(text, -1) {
		v, _ := plainRead(m[3])
		e := impl.Entry{Role: slices.Index(plainNames(f)[2], m[1]), Field: slices.Index(plainNames(f)[3], m[2]), Val: v}
		if !isEntry(f, e) {
			return nil, false
		}
		log = append(log, e)
	}
	if len(log) > impl.MaxSteps || plainWrite(f, log) != text {
		return nil, false
	}
	return log, true
}

// plainSession knows nothing but the form, who sees what of it, and the log.
type plainSession struct {
	form impl.Form
	sees [][]bool
	log  []impl.Entry
}

func (s *plainSession) inputs() []impl.Value {
	inputs := make([]impl.Value, len(s.form.Fields))
	for _, e := range s.log {
		inputs[e.Field] = e.Val
	}
	return inputs
}

func (s *plainSession) cells() []impl.Cell { return plainSolved(s.form, s.inputs()) }

var stepPatterns = map[string]*regexp.Regexp{
	"edit":   regexp.MustCompile(`(?s)^edit ([^ ]*) ([^ ]*) (.*)$`),
	"view":   regexp.MustCompile(`(?s)^view (.*)$`),
	"errors": regexp.MustCompile(`(?s)^errors (.*)$`),
	"next":   regexp.MustCompile(`(?s)^next ([^ ]*) (.*)$`),
	"prev":   regexp.MustCompile(`(?s)^prev ([^ ]*) (.*)$`),
	"submit": regexp.MustCompile(`(?s)^submit (.*)$`),
	"export": regexp.MustCompile(`(?s)^export (.*)$`),
}

// plainStep gives the kind and the parts of a line; there are no parts if there is no such step.
func plainStep(line string) (string, []string) {
	for kind, pattern := range stepPatterns {
		if parts := pattern.FindStringSubmatch(line); parts != nil {
			return kind, parts[1:]
		}
	}
	return "", nil
}

// codes gives all codes that apply to a step, but 8; what can't be asked for lack of a role or a field is not asked.
func (s *plainSession) codes(kind string, parts []string) []int {
	if kind == "" {
		return []int{1}
	}
	f, codes := s.form, []int{}
	r, k := slices.Index(plainNames(f)[2], parts[0]), -1
	if r < 0 {
		codes = append(codes, 2)
	}
	v, readable := blank(), false
	switch kind {
	case "edit":
		v, readable = plainRead(parts[2])
		if !readable {
			codes = append(codes, 6)
		}
		fallthrough
	case "next", "prev":
		k = slices.Index(plainNames(f)[3], parts[1])
		if k < 0 || r >= 0 && !s.sees[r][k] {
			codes = append(codes, 3)
		}
	}
	if k < 0 {
		return codes
	}
	if kind == "edit" {
		if r >= 0 && (!s.sees[r][k] || !slices.Contains(f.Fields[k].By, r)) {
			codes = append(codes, 4)
		}
		if !s.cells()[k].Rel {
			codes = append(codes, 5)
		}
		if !plainFits(f.Fields[k], v) {
			codes = append(codes, 7)
		}
	} else if r >= 0 && plainMove(f, s.cells(), s.sees[r], r, k, kind == "prev") < 0 {
		codes = append(codes, 9)
	}
	return codes
}

func (s *plainSession) answer(line string) impl.Answer {
	kind, parts := plainStep(line)
	if codes := s.codes(kind, parts); len(codes) > 0 {
		return impl.Answer{Code: slices.Min(codes)}
	}
	f := s.form
	r := slices.Index(plainNames(f)[2], parts[0])
	switch kind {
	case "edit":
		v, _ := plainRead(parts[2])
		s.log = append(s.log, impl.Entry{Role: r, Field: slices.Index(plainNames(f)[3], parts[1]), Val: v})
		return impl.Answer{}
	case "next", "prev":
		k := slices.Index(plainNames(f)[3], parts[1])
		return impl.Answer{Text: f.Fields[plainMove(f, s.cells(), s.sees[r], r, k, kind == "prev")].Name}
	case "export":
		return impl.Answer{Text: plainWrite(f, plainSeen(s.log, s.sees[r]))}
	}
	return plainShown(f, plainRows(f, s.cells(), s.sees[r]), kind)
}

// plainShown is the answer to a step of a kind that shows the rows.
func plainShown(f impl.Form, rows []impl.Row, kind string) impl.Answer {
	all, wrong, filled := "", "", ""
	for _, row := range rows {
		name, val := f.Fields[row.Field].Name, plainShow(row.Val)
		line := name + " " + val
		if row.Must {
			line += " must"
		}
		line += []string{"", " error", ` bad "` + row.Says + `"`, " missing"}[row.Code] + "\n"
		all += line
		if row.Code != 0 {
			wrong += line
		}
		if val != "blank" {
			filled += name + " " + val + "\n"
		}
	}
	switch {
	case kind == "view":
		return impl.Answer{Text: all}
	case kind == "errors":
		return impl.Answer{Text: wrong}
	case wrong != "":
		return impl.Answer{Code: 8, Text: wrong}
	}
	return impl.Answer{Text: filled}
}

func plainLines(script string) []string {
	lines := strings.Split(script, "\n")
	if lines[len(lines)-1] == "" {
		return lines[:len(lines)-1]
	}
	return lines
}

func plainRun(form string, script string) (impl.Diag, []impl.Answer) {
	f, d := plainLoad(form)
	if d.Code != 0 {
		return d, nil
	}
	if len(script) > impl.MaxScript {
		return impl.Diag{Code: 30}, nil
	}
	lines := plainLines(script)
	if len(lines) > impl.MaxSteps {
		return impl.Diag{Code: 31}, nil
	}
	s := plainSession{form: f, sees: plainSees(f)}
	answers := []impl.Answer{}
	for _, line := range lines {
		answers = append(answers, s.answer(line))
	}
	return impl.Diag{}, answers
}
