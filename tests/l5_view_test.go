package tests

import (
	"fmt"
	"math"
	"slices"
	"testing"

	"loop.example/s0011/impl"
)

func wantRows(t *testing.T, f impl.Form, cells []impl.Cell, r int, want ...impl.Row) {
	t.Helper()
	if got := impl.View(f, cells, r); !slices.Equal(got, want) {
		t.Errorf("role %d sees in %.600q with %.600v:\n%v, want\n%v", r, plainCanonical(f), cells, got, want)
	}
}

// wantPlaces asks only which fields are shown.
func wantPlaces(t *testing.T, f impl.Form, cells []impl.Cell, r int, want ...int) {
	t.Helper()
	places := []int{}
	for _, row := range impl.View(f, cells, r) {
		places = append(places, row.Field)
	}
	if !slices.Equal(places, want) {
		t.Errorf("role %d sees in %.600q the fields %v, want %v", r, plainCanonical(f), places, want)
	}
}

func cellsAll(c impl.Cell, count int) []impl.Cell { return slices.Repeat([]impl.Cell{c}, count) }

func TestViewEveryCode(t *testing.T) {
	f := soundText(t, `label p;role r at p;field a int at p valid true says "a is wrong";field b int at p;field c text at p is 1 valid c says "";`)
	for _, c := range []struct {
		cell impl.Cell
		code int
	}{
		{cell(blank(), "ro"), 0}, {cell(whole(0), "ro"), 0}, {cell(no(), "ro"), 0}, {cell(words(""), "ro"), 0}, {cell(words("blank"), "ro"), 0},
		{cell(whole(0), "rom"), 0}, {cell(no(), "rom"), 0}, {cell(words(""), "rom"), 0}, {cell(yes(), "rom"), 0}, {cell(words(long(1000)), "rom"), 0},
		{cell(fault(1), "ro"), 1}, {cell(fault(5), "ro"), 1}, {cell(fault(3), "rom"), 1},
		{cell(whole(1), "r"), 2}, {cell(blank(), "r"), 2}, {cell(words("a"), "rm"), 2},
		{cell(blank(), "rom"), 3},
		// two that meet: the error before the wrong value, and that before the missing one
		{cell(fault(2), "r"), 1}, {cell(fault(4), "rm"), 1},
		{cell(blank(), "rm"), 2},
	} {
		says := func(text string) string {
			if c.code == 2 {
				return text
			}
			return ""
		}
		wantRows(t, f, cellsAll(c.cell, 3), 0, impl.Row{Field: 0, Val: c.cell.Val, Must: c.cell.Must, Code: c.code, Says: says("a is wrong")},
			impl.Row{Field: 1, Val: c.cell.Val, Must: c.cell.Must, Code: c.code}, impl.Row{Field: 2, Val: c.cell.Val, Must: c.cell.Must, Code: c.code})
		hidden := c.cell
		hidden.Rel = false
		wantRows(t, f, cellsAll(hidden, 3), 0)
		wantRows(t, f, []impl.Cell{hidden, c.cell, hidden}, 0, impl.Row{Field: 1, Val: c.cell.Val, Must: c.cell.Must, Code: c.code})
	}
}

const fourRoles = "role rlow at low;role rl at l;role rr at r;role rtop at top;"

// Roles at, below, above and beside the label of a field, declared and auto.
func TestViewByLabel(t *testing.T) {
	declared := soundText(t, diamond+fourRoles+"field a int at low;field b int at l;field c int at r;field d int at top;")
	auto := soundText(t, diamond+fourRoles+`field a int at auto;field b int at auto is p;field c int at auto when q;field d int at auto valid b says "" must c;field p int at l;field q int at r;`)
	for r, want := range [][]int{low: {0}, left: {0, 1}, right: {0, 2}, top: {0, 1, 2, 3}} {
		wantPlaces(t, declared, cellsAll(cell(whole(1), "ro"), 4), r, want...)
		wantPlaces(t, auto, append(cellsAll(cell(blank(), "ro"), 4), cellsAll(cell(whole(1), "o"), 2)...), r, want...)
		some := cellsAll(cell(whole(1), "ro"), 4)
		some[0].Rel, some[3].Rel = false, false
		wantPlaces(t, declared, some, r, slices.DeleteFunc(slices.Clone(want), func(k int) bool { return k == 0 || k == 3 })...)
	}
	// who may edit a field is nothing to who sees it
	by := soundText(t, diamond+fourRoles+"field a int at top by rlow;field b int at low by rtop;")
	wantPlaces(t, by, cellsAll(cell(blank(), "ro"), 2), low, 1)
	wantPlaces(t, by, cellsAll(cell(blank(), "ro"), 2), top, 0, 1)
	// a field with a declared label is seen by that label, and not by what it reads
	above := soundText(t, diamond+fourRoles+"field a int at low;field b int at top is a;field c int at auto is b;")
	wantPlaces(t, above, cellsAll(cell(blank(), "ro"), 3), left, 0)
	// the lowest label is not the first one
	turned := soundText(t, "label high;label low;below low high;role r at low;role s at high;field a int at high;field b int at low;field c int at auto;field d int at auto is a;")
	wantPlaces(t, turned, cellsAll(cell(blank(), "ro"), 4), 0, 1, 2)
	wantPlaces(t, turned, cellsAll(cell(blank(), "ro"), 4), 1, 0, 1, 2, 3)
}

// The label with the greatest number, all labels below it, and all fields there can be.
func TestViewOfTheGreatest(t *testing.T) {
	text := labelled(chainUp(32)) + repeated("role r# at l#;", 32) + repeated("field f# int at l#;", 32)
	f := soundText(t, text)
	for r := range 32 {
		wantPlaces(t, f, cellsAll(cell(whole(1), "ro"), 32), r, upTo(r+1)...)
	}
	full := soundText(t, "label p;role r at p;"+fullForm(func(int) string { return "" }))
	wantPlaces(t, full, cellsAll(cell(whole(1), "ro"), 200), 0, upTo(200)...)
	none := soundText(t, "label p;role r at p;")
	wantRows(t, none, nil, 0)
}

// wrongCells breaks cells for a form in every way.
func wrongCells(good []impl.Cell) [][]impl.Cell {
	out := [][]impl.Cell{nil, good[1:], good[:len(good)-1], append(slices.Clone(good), good[0]), append(slices.Clone(good), good...)}
	for k := range good {
		for _, v := range wrongValues() {
			cells := slices.Clone(good)
			cells[k].Val = v
			out = append(out, cells)
			cells = slices.Clone(cells)
			cells[k].Rel = false
			out = append(out, cells)
		}
	}
	return out
}

func notARole(count int) []int {
	return []int{-1, count, count + 1, -count, 64, 1 << 40, math.MaxInt, math.MinInt}
}

func TestViewWrongArguments(t *testing.T) {
	f := soundText(t, "label low;label high;below low high;role r at low;role s at high;field a int at low by r by s;field b int at low by r by s;field c int at high by r by s;")
	good := cellsAll(cell(whole(1), "ro"), 3)
	wantPlaces(t, f, good, 0, 0, 1)
	wantMove(t, f, good, 1, 0, false, 1)
	for _, cells := range wrongCells(good) {
		for r := range 2 {
			wantRows(t, f, cells, r)
			wantMove(t, f, cells, r, 0, false, -1)
			wantMove(t, f, cells, r, 1, true, -1)
		}
	}
	for _, r := range notARole(2) {
		wantRows(t, f, good, r)
		wantMove(t, f, good, r, 0, false, -1)
		wantMove(t, f, good, r, 1, true, -1)
	}
	for what, form := range notSoundForms(t) {
		cells := cellsAll(cell(blank(), "ro"), len(form.Fields))
		for r := range max(len(form.Roles), 1) {
			if got := impl.View(form, cells, r); len(got) != 0 {
				t.Errorf("%s: %v", what, got)
			}
			for _, k := range someOf(len(form.Fields)) {
				if impl.Navigate(form, cells, r, k, false) != -1 || impl.Navigate(form, cells, r, k, true) != -1 {
					t.Errorf("%s: a move from %d", what, k)
				}
			}
		}
	}
}

func wantMove(t *testing.T, f impl.Form, cells []impl.Cell, r int, k int, back bool, want int) {
	t.Helper()
	if got := impl.Navigate(f, cells, r, k, back); got != want {
		t.Errorf("in %.600q with %.600v role %d from %d (back: %v) to %d, want %d", plainCanonical(f), cells, r, k, back, got, want)
	}
}

// wantMoves has where each field leads to, forward and back.
func wantMoves(t *testing.T, f impl.Form, cells []impl.Cell, r int, next []int, prev []int) {
	t.Helper()
	for k := range f.Fields {
		wantMove(t, f, cells, r, k, false, next[k])
		wantMove(t, f, cells, r, k, true, prev[k])
	}
}

func TestNavigate(t *testing.T) {
	// a and f are by r, b by no one, c hidden, d calculated, e not relevant
	f := soundText(t, "label low;label high;below low high;role r at low;role s at high;field a int at low by r;field b int at low;field c int at high by r by s;field d int at low is a;field e int at low by r by s;field f int at low by s by r;")
	cells := cellsAll(cell(blank(), "ro"), 6)
	cells[4].Rel = false
	wantMoves(t, f, cells, 0, []int{5, 5, -1, 5, 5, -1}, []int{-1, 0, -1, 0, 0, 0})
	wantMoves(t, f, cells, 1, []int{2, 2, 5, 5, 5, -1}, []int{-1, -1, -1, 2, 2, 2})
	cells[4].Rel = true
	wantMoves(t, f, cells, 0, []int{4, 4, -1, 4, 5, -1}, []int{-1, 0, -1, 0, 0, 4})
	cells[5].Rel, cells[0].Rel = false, false
	wantMoves(t, f, cells, 0, []int{4, 4, -1, 4, -1, -1}, []int{-1, -1, -1, -1, -1, 4})
	for k := range cells {
		cells[k] = cell(fault(1), "m")
	}
	wantMoves(t, f, cells, 0, slices.Repeat([]int{-1}, 6), slices.Repeat([]int{-1}, 6))
	// nothing of a cell but Rel counts
	for k := range cells {
		cells[k] = cell(fault(1), "rm")
	}
	wantMoves(t, f, cells, 1, []int{2, 2, 4, 4, 5, -1}, []int{-1, -1, -1, 2, 2, 4})
	for _, k := range []int{-1, 6, 7, -2, math.MaxInt, math.MinInt} {
		wantMove(t, f, cells, 1, k, false, -1)
		wantMove(t, f, cells, 1, k, true, -1)
	}
}

func TestNavigateEdges(t *testing.T) {
	one := soundText(t, "label p;role r at p;field a int at p by r;")
	wantMoves(t, one, cellsAll(cell(blank(), "ro"), 1), 0, []int{-1}, []int{-1})
	wantMove(t, soundText(t, "label p;role r at p;"), nil, 0, 0, false, -1)
	two := soundText(t, "label p;role r at p;field a int at p by r;field b int at p by r;")
	wantMoves(t, two, cellsAll(cell(blank(), "ro"), 2), 0, []int{1, -1}, []int{-1, 0})
	full := "label p;role r at p;" + fullForm(func(i int) string {
		if i == 0 || i == 199 {
			return "by r"
		}
		return ""
	})
	f := soundText(t, full)
	for _, k := range []int{0, 1, 100, 198} {
		wantMove(t, f, cellsAll(cell(blank(), "ro"), 200), 0, k, false, 199)
		wantMove(t, f, cellsAll(cell(blank(), "ro"), 200), 0, k+1, true, 0)
	}
	// beside: the start is not visible, or what would be next is not
	beside := soundText(t, diamond+fourRoles+"field a int at l by rl by rr;field b int at r by rl by rr;field c int at low by rl by rr;field d int at auto by rl by rr when a;")
	cells := cellsAll(cell(blank(), "ro"), 4)
	wantMoves(t, beside, cells, left, []int{2, -1, 3, -1}, []int{-1, -1, 0, 2})
	wantMoves(t, beside, cells, right, []int{-1, 2, -1, -1}, []int{-1, -1, 1, -1})
	wantMoves(t, beside, cells, top, []int{-1, -1, -1, -1}, []int{-1, -1, -1, -1})
}

func TestViewAnswersAreNew(t *testing.T) {
	f := soundText(t, "label p;role r at p;field a int at p by r;field b int at p by r;")
	cells := cellsAll(cell(whole(1), "ro"), 2)
	first, second := impl.View(f, cells, 0), impl.View(f, cells, 0)
	first[0] = impl.Row{Field: 9}
	if second[0].Field != 0 || cells[0] != cell(whole(1), "ro") {
		t.Errorf("%v and %v", second, cells)
	}
}

// Promise 12, over mixed forms and cells.
func TestViewMixed(t *testing.T) {
	m := mixer(51)
	codes, moves, hidden := map[int]int{}, map[bool]int{}, 0
	for range 1500 {
		f := mixedSound(&m, mixedLattice(&m), m.below(9))
		cells := mixedCells(&m, f)
		if m.below(20) == 0 && len(cells) > 0 {
			cells[m.below(len(cells))].Val = wrongValues()[m.below(len(wrongValues()))]
		}
		r, outside := m.below(len(f.Roles)), m.below(len(f.Fields)+2)-1
		want := plainView(f, cells, r)
		wantRows(t, f, cells, r, want...)
		wantMove(t, f, cells, r, outside, false, plainNavigate(f, cells, r, outside, false))
		hidden += len(cells) - len(want)
		for _, row := range want {
			codes[row.Code]++
		}
		if !isCells(f, cells) {
			continue
		}
		sees := plainSees(f)[r]
		for k := range cells {
			back := m.below(2) == 0
			to := -1
			if sees[k] {
				to = plainMove(f, cells, sees, r, k, back)
			}
			wantMove(t, f, cells, r, k, back, to)
			moves[to >= 0]++
		}
	}
	for code := range 4 {
		if codes[code] < 50 {
			t.Errorf("codes seen: %v", codes)
		}
	}
	if hidden < 1000 || moves[true] < 1000 || moves[false] < 1000 {
		t.Errorf("%d fields not shown, moves %v", hidden, moves)
	}
}

func TestViewTopSeesAll(t *testing.T) {
	m := mixer(52)
	for range 300 {
		o := mixedLattice(&m)
		f := mixedSound(&m, o, 1+m.below(8))
		l, _ := plainBuild(o)
		f.Roles = append(f.Roles, impl.Role{Name: "highest", Label: l.Top})
		cells := mixedCells(&m, f)
		want := []int{}
		for k, c := range cells {
			if c.Rel {
				want = append(want, k)
			}
		}
		wantPlaces(t, f, cells, len(f.Roles)-1, want...)
		for r := range f.Roles {
			for _, row := range impl.View(f, cells, r) {
				if !slices.Contains(want, row.Field) || row.Val != cells[row.Field].Val {
					t.Errorf("%s: %v", fmt.Sprint("role ", r), row)
				}
			}
		}
	}
}
