package tests

import (
	"fmt"
	"slices"
	"strings"

	"loop.example/s0011/impl"
)

// byKind has names of fields by their type.
type byKind [4][]string

func namesByKind(f impl.Form, which func(k int) bool) byKind {
	out := byKind{}
	for k, x := range f.Fields {
		if which(k) {
			out[x.Type] = append(out[x.Type], x.Name)
		}
	}
	return out
}

func typedLeaf(m *mixer, names byKind, kind int) *tree {
	if n := len(names[kind]); n > 0 && m.below(4) > 0 {
		return leaf(field(names[kind][m.below(n)]))
	}
	switch {
	case m.below(10) == 0:
		return leaf(constant(blank()))
	case kind == impl.KInt:
		return leaf(constant(whole([]int64{0, 1, 2, 3, 10, largest}[m.below(6)])))
	case kind == impl.KBool:
		return leaf(constant(truth(m.below(2) == 0)))
	}
	return leaf(constant(words([]string{"", "a", "12", "a b", "-3"}[m.below(5)])))
}

// typedTree mostly gives the kind that is asked for, so that not every mixed rule ends in an error.
func typedTree(m *mixer, names byKind, kind int, size int) *tree {
	if m.below(25) == 0 {
		kind = 1 + m.below(3)
	}
	if size == 0 {
		return typedLeaf(m, names, kind)
	}
	some := func(kind int) *tree { return typedTree(m, names, kind, m.below(size)) }
	pick := func(ops ...int) int { return ops[m.below(len(ops))] }
	other := 1 + m.below(3)
	choice := m.below(8)
	switch {
	case choice == 0:
		return branch(impl.OpIf, some(impl.KBool), some(kind), some(kind))
	case choice == 1:
		return branch(impl.OpElse, some(kind), some(kind))
	case kind == impl.KInt && choice == 2:
		return branch(pick(impl.OpLen, impl.OpNum), some(impl.KText))
	case kind == impl.KInt && choice == 3:
		return branch(impl.OpNeg, some(kind))
	case kind == impl.KInt:
		return branch(pick(impl.OpAdd, impl.OpSub, impl.OpMul, impl.OpDiv, impl.OpMod, impl.OpMin, impl.OpMax), some(kind), some(kind))
	case kind == impl.KText && choice < 5:
		return branch(impl.OpCat, some(kind), some(kind))
	case kind == impl.KText:
		return branch(impl.OpStr, some(other))
	case choice == 2:
		return branch(pick(impl.OpIsBlank, impl.OpIsErr), some(other))
	case choice == 3:
		return branch(impl.OpNot, some(kind))
	case choice == 4:
		return branch(impl.OpHas, some(impl.KText), some(impl.KText))
	case choice == 5:
		return branch(pick(impl.OpAnd, impl.OpOr), some(kind), some(kind))
	}
	return branch(pick(impl.OpEq, impl.OpNe, impl.OpLt, impl.OpLe), some(other), some(other))
}

// mixedSound is a sound form over an order that is a lattice; fields whose declared label would be too low are made auto.
func mixedSound(m *mixer, o impl.Order, count int) impl.Form {
	f := impl.Form{Below: slices.Clone(o.Pairs)}
	for a := range o.N {
		f.Labels = append(f.Labels, fmt.Sprint("l", a))
	}
	for i := range 1 + m.below(3) {
		f.Roles = append(f.Roles, impl.Role{Name: fmt.Sprint("r", i), Label: m.below(o.N)})
	}
	for _, name := range numbered(0, count) {
		f.Fields = append(f.Fields, impl.Field{Name: name, Type: 1 + m.below(3), Label: m.below(o.N+1) - 1})
	}
	row := mixedNames(m, count)
	for k := range f.Fields {
		mixRules(m, &f, k, row)
	}
	for d := impl.CheckForm(f); d.Code == 16; d = impl.CheckForm(f) {
		f.Fields[d.At-len(f.Labels)-len(f.Below)-len(f.Roles)].Label = -1
	}
	return f
}

// mixRules lets Is and When rules read only what stands on the left in the row, so that there is no cycle.
func mixRules(m *mixer, f *impl.Form, k int, row []int) {
	x := &f.Fields[k]
	near := namesByKind(*f, func(j int) bool { return row[j] < row[k] })
	all := namesByKind(*f, anyField)
	rule := func(names byKind, kind int, often int) []impl.Node {
		if m.below(often) > 0 {
			return nil
		}
		return typedTree(m, names, kind, m.below(4)).postfix()
	}
	x.Is, x.When = rule(near, x.Type, 3), rule(near, impl.KBool, 4)
	x.Valid, x.Must = rule(all, impl.KBool, 3), rule(all, impl.KBool, 3)
	if len(x.Valid) > 0 {
		x.Says = mixedText(m, m.below(4))
	}
	if len(x.Is) == 0 {
		x.By = mixedNames(m, len(f.Roles))[:m.below(len(f.Roles)+1)]
	}
}

// mixedFitting gives a value of that kind, or blank.
func mixedFitting(m *mixer, kind int) impl.Value {
	switch {
	case m.below(6) == 0:
		return blank()
	case kind == impl.KInt && m.below(6) == 0:
		return whole(edgeNumbers()[m.below(len(edgeNumbers()))])
	case kind == impl.KInt:
		return whole(int64(m.below(6) - 2))
	case kind == impl.KBool:
		return truth(m.below(3) > 0)
	case m.below(20) == 0:
		return words(long(500 + 250*m.below(3)))
	}
	return words([]string{"", "a", "12", "a b", "-3", " ", mixedText(m, 3)}[m.below(7)])
}

func mixedInputs(m *mixer, f impl.Form) []impl.Value {
	inputs := []impl.Value{}
	for _, x := range f.Fields {
		v := blank()
		if len(x.Is) == 0 {
			v = mixedFitting(m, x.Type)
		}
		inputs = append(inputs, v)
	}
	return inputs
}

// mixedCells are cells that no one has solved.
func mixedCells(m *mixer, f impl.Form) []impl.Cell {
	cells := []impl.Cell{}
	for range f.Fields {
		v := mixedFitting(m, 1+m.below(3))
		if m.below(5) == 0 {
			v = fault(int64(1 + m.below(5)))
		}
		cells = append(cells, impl.Cell{Val: v, Rel: m.below(4) > 0, Ok: m.below(2) == 0, Must: m.below(2) == 0})
	}
	return cells
}

func mixedLattice(m *mixer) impl.Order { return smallLattices[m.below(len(smallLattices))] }

var brokenLines = []string{"", " ", "edit", "view", "look r0", "edit r0", "edit r0 f0", "next r0", "prev r0", "view  r0", "view r0 ", " view r0", "edit r0  1", "edit  f0 1", "submit ", "VIEW r0", "export r9",
	"next r0 ", "next r0 f0 ", "prev  f0", "edit r0 f0 ", "edit r0 f0  1", "edit r0 f0 1 ", "edit r0 f0 !1", "edit r0 f0 01", "edit r0 f0 \"", "edit r0 f0 ?", "view r0\r", "edit r0 f0 1\t", "export r0 r0", "edits r0 f0 1"}

// mixedLine is a step by a role on a field of the form, or now and then by no role, on no field, or no step at all.
func mixedLine(m *mixer, f impl.Form) string {
	if m.below(12) == 0 {
		return brokenLines[m.below(len(brokenLines))]
	}
	r, k := fmt.Sprint("r", m.below(len(f.Roles)+m.below(2))), m.below(len(f.Fields)+m.below(2)+1)
	name, kind := fmt.Sprint("f", k), 1+m.below(3)
	if k < len(f.Fields) && m.below(8) > 0 {
		kind = f.Fields[k].Type
		if by := f.Fields[k].By; len(by) > 0 && m.below(5) > 0 {
			r = fmt.Sprint("r", by[m.below(len(by))])
		}
	}
	switch m.below(12) {
	case 0:
		return "view " + r
	case 1:
		return "errors " + r
	case 2:
		return "submit " + r
	case 3:
		return "export " + r
	case 4:
		return "next " + r + " " + name
	case 5:
		return "prev " + r + " " + name
	}
	return "edit " + r + " " + name + " " + plainShow(mixedFitting(m, kind))
}

func mixedScript(m *mixer, f impl.Form, lines int) string {
	out := strings.Builder{}
	for range lines {
		out.WriteString(mixedLine(m, f) + "\n")
	}
	return out.String()
}
