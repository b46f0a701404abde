package tests

import (
	"fmt"
	"slices"
	"testing"

	"loop.example/s0011/impl"
)

// The tests of chapter 4 hold the program against the document's own words, written out here with tables of who reads whom.

func feedingRules(x impl.Field) []impl.Node { return slices.Concat(x.Is, x.When) }

func allRules(x impl.Field) []impl.Node { return slices.Concat(x.Is, x.When, x.Valid, x.Must) }

// plainReads says at [j][k] whether the rules of field k read field j.
func plainReads(f impl.Form, rules func(impl.Field) []impl.Node) [][]bool {
	reads := [][]bool{}
	for range f.Fields {
		reads = append(reads, make([]bool, len(f.Fields)))
	}
	for k, x := range f.Fields {
		for _, n := range rules(x) {
			if n.Op == impl.OpField {
				reads[slices.Index(plainNames(f)[3], n.Name)][k] = true
			}
		}
	}
	return reads
}

// plainLeads says at [j][k] whether one or more steps lead from j to k, where between lets through which fields may stand between the two.
func plainLeads(steps [][]bool, between func(k int) bool) [][]bool {
	leads := [][]bool{}
	for _, row := range steps {
		leads = append(leads, slices.Clone(row))
	}
	for by := range leads {
		for j := range leads {
			if !between(by) || !leads[j][by] {
				continue
			}
			for k := range leads {
				leads[j][k] = leads[j][k] || leads[by][k]
			}
		}
	}
	return leads
}

func anyField(int) bool { return true }

// plainOnCycle gives the fields that are on a cycle.
func plainOnCycle(f impl.Form) []int {
	leads := plainLeads(plainReads(f, feedingRules), anyField)
	on := []int{}
	for k := range f.Fields {
		if leads[k][k] {
			on = append(on, k)
		}
	}
	return on
}

func plainOrder(f impl.Form) []int {
	if !plainValidForm(f) || len(plainOnCycle(f)) > 0 {
		return nil
	}
	feeds := plainReads(f, feedingRules)
	listed := []int{}
	for len(listed) < len(f.Fields) {
		could := []int{}
		for k := range f.Fields {
			ready := !slices.Contains(listed, k)
			for j := range f.Fields {
				if feeds[j][k] && !slices.Contains(listed, j) {
					ready = false
				}
			}
			if ready {
				could = append(could, k)
			}
		}
		listed = append(listed, slices.Min(could))
	}
	return listed
}

func plainDirty(f impl.Form, k int) []int {
	if k < 0 || k >= len(f.Fields) {
		return nil
	}
	order := plainOrder(f)
	if order == nil {
		return nil
	}
	leads := plainLeads(plainReads(f, feedingRules), anyField)
	return slices.DeleteFunc(order, func(j int) bool { return j != k && !leads[k][j] })
}

// plainLattice gives the code of BuildLattice too.
func plainLattice(f impl.Form) (impl.Lattice, int) {
	if len(f.Labels) == 0 {
		return impl.Lattice{}, 1
	}
	return plainBuild(impl.Order{N: len(f.Labels), Pairs: f.Below})
}

// plainLabels finds for each auto field the declared labels from which reading leads to it through auto fields, and what lies above just them.
func plainLabels(f impl.Form) []int {
	if !plainValidForm(f) {
		return nil
	}
	l, code := plainLattice(f)
	if code != 0 {
		return nil
	}
	isAuto := func(k int) bool { return f.Fields[k].Label == -1 }
	leads := plainLeads(plainReads(f, allRules), isAuto)
	labels := []int{}
	for k, x := range f.Fields {
		from := []int{}
		for j, y := range f.Fields {
			if leads[j][k] && !isAuto(j) {
				from = append(from, y.Label)
			}
		}
		if isAuto(k) {
			labels = append(labels, plainJoinAll(l, from))
		} else {
			labels = append(labels, x.Label)
		}
	}
	return labels
}

func plainCheck(f impl.Form) impl.Diag {
	if !plainValidForm(f) {
		return impl.Diag{Code: 20}
	}
	l, code := plainLattice(f)
	if code != 0 {
		return impl.Diag{Code: []int{1: 11, 2: 12, 3: 13, 4: 14}[code]}
	}
	first := len(f.Labels) + len(f.Below) + len(f.Roles)
	if on := plainOnCycle(f); len(on) > 0 {
		return impl.Diag{Code: 15, At: first + slices.Min(on)}
	}
	reads, labels := plainReads(f, allRules), plainLabels(f)
	for k, x := range f.Fields {
		for j := range f.Fields {
			if x.Label != -1 && reads[j][k] && !l.Leq[labels[j]*l.N+x.Label] {
				return impl.Diag{Code: 16, At: first + k}
			}
		}
	}
	return impl.Diag{}
}

func plainLoad(text string) (impl.Form, impl.Diag) {
	f, d := plainParseForm(text)
	if d.Code != 0 {
		return impl.Form{}, d
	}
	if d := plainCheck(f); d.Code != 0 {
		return impl.Form{}, d
	}
	return f, impl.Diag{}
}

// someOf gives all numbers below n, or of a great n the outer ones and some of the others, and the numbers next to them.
func someOf(n int) []int {
	out := []int{-1, n}
	for k := range n {
		if n <= 20 || k < 3 || k >= n-3 || k%37 == 0 {
			out = append(out, k)
		}
	}
	return out
}

// wantFlow asks all functions of the chapter but Load of one form, and gives what the words of CheckForm say of it.
func wantFlow(t *testing.T, f impl.Form) impl.Diag {
	t.Helper()
	kept := tidy(f)
	if got, want := impl.CalcOrder(f), plainOrder(f); !slices.Equal(got, want) {
		t.Errorf("order of %.2000q: %v, want %v", impl.PrintForm(f), got, want)
	}
	for _, k := range someOf(len(f.Fields)) {
		if got, want := impl.Dirty(f, k), plainDirty(f, k); !slices.Equal(got, want) {
			t.Errorf("dirty by %d in %.2000q: %v, want %v", k, impl.PrintForm(f), got, want)
		}
	}
	if got, want := impl.InferLabels(f), plainLabels(f); !slices.Equal(got, want) {
		t.Errorf("labels of %.2000q: %v, want %v", impl.PrintForm(f), got, want)
	}
	want := plainCheck(f)
	if got := impl.CheckForm(f); got != want {
		t.Errorf("check of %.2000q: %v, want %v", impl.PrintForm(f), got, want)
	}
	if !sameForm(f, kept) {
		t.Errorf("the form was changed: %.300v", f)
	}
	return want
}

func wantLoadAsPlain(t *testing.T, text string) impl.Diag {
	t.Helper()
	form, want := plainLoad(text)
	got, d := impl.Load(text)
	if d != want || !sameForm(got, form) {
		t.Errorf("%.2000q: %v and %v, want %v and %v", text, d, got, want, form)
	}
	return want
}

// formOf is asked only of texts that ParseForm accepts.
func formOf(t *testing.T, text string) impl.Form {
	t.Helper()
	f, d := impl.ParseForm(text)
	if d.Code != 0 {
		t.Fatalf("%.2000q: %v", text, d)
	}
	return f
}

// labelled declares the labels of an order, named l0, l1 and so on, and its pairs.
func labelled(o impl.Order) string {
	out := repeated("label l#;", o.N)
	for _, p := range o.Pairs {
		out += fmt.Sprintf("below l%d l%d;", p.Lo, p.Hi)
	}
	return out
}
