package tests

import (
	"fmt"
	"math"
	"slices"
	"strings"
	"testing"

	"loop.example/s0011/impl"
)

const ledger = "label low;label high;below low high;role clerk at low;role boss at high;field a int at low by clerk;field b bool at low;field s text at high by boss;field sum int at auto is a;field t text at low when b;"

func entry(r int, k int, v impl.Value) impl.Entry { return impl.Entry{Role: r, Field: k, Val: v} }

func wantExport(t *testing.T, f impl.Form, log []impl.Entry, r int, want string) {
	t.Helper()
	if got := impl.Export(f, log, r); got != want {
		t.Errorf("export of %.600v for role %d: %.600q, want %.600q", log, r, got, want)
	}
}

func wantDecoded(t *testing.T, f impl.Form, text string, want ...impl.Entry) {
	t.Helper()
	got, ok := impl.DecodeExport(f, text)
	if !ok || !slices.Equal(got, want) {
		t.Errorf("%.600q is decoded as %.600v with %v, want %.600v", text, got, ok, want)
	}
}

func wantNotDecoded(t *testing.T, f impl.Form, text string) {
	t.Helper()
	if got, ok := impl.DecodeExport(f, text); ok || len(got) != 0 {
		t.Errorf("%.600q is decoded as %.600v with %v", text, got, ok)
	}
}

func TestExportWrittenOut(t *testing.T) {
	f := soundText(t, ledger)
	log := []impl.Entry{entry(0, 0, whole(5)), entry(1, 2, words("x y")), entry(1, 0, blank()), entry(0, 2, blank()), entry(0, 1, yes()), entry(1, 4, words("")), entry(0, 1, no()), entry(0, 0, whole(smallest)), entry(1, 4, words(" 1 boss s "))}
	all := "1 clerk a 5\n2 boss s \"x y\"\n3 boss a blank\n4 clerk s blank\n5 clerk b true\n6 boss t \"\"\n7 clerk b false\n8 clerk a -9223372036854775808\n9 boss t \" 1 boss s \"\n"
	seen := "1 clerk a 5\n2 boss a blank\n3 clerk b true\n4 boss t \"\"\n5 clerk b false\n6 clerk a -9223372036854775808\n7 boss t \" 1 boss s \"\n"
	wantExport(t, f, log, 1, all)
	wantExport(t, f, log, 0, seen)
	wantDecoded(t, f, all, log...)
	wantDecoded(t, f, seen, slices.DeleteFunc(slices.Clone(log), func(e impl.Entry) bool { return e.Field == 2 })...)
	// whoever reads the text decodes it, whatever he may see
	wantDecoded(t, f, "1 clerk s \"secret\"\n", entry(0, 2, words("secret")))
	// nothing but what is left out comes to nothing
	wantExport(t, f, []impl.Entry{entry(1, 2, words("x")), entry(1, 2, blank())}, 0, "")
	wantExport(t, f, nil, 0, "")
	wantExport(t, f, []impl.Entry{}, 1, "")
	wantDecoded(t, f, "")
	// the same entry twice
	wantExport(t, f, []impl.Entry{log[0], log[0]}, 0, "1 clerk a 5\n2 clerk a 5\n")
	wantDecoded(t, f, "1 clerk a 5\n2 clerk a 5\n", log[0], log[0])
}

func TestExportEveryValue(t *testing.T) {
	f := soundText(t, ledger)
	for _, v := range someValues() {
		for k, x := range f.Fields {
			e := entry(1, k, v)
			if !plainFits(x, v) || k == 3 {
				wantExport(t, f, []impl.Entry{e}, 1, "")
				wantNotDecoded(t, f, fmt.Sprintf("1 boss %s %s\n", x.Name, plainShow(v)))
				continue
			}
			text := fmt.Sprintf("1 boss %s %s\n", x.Name, plainShow(v))
			wantExport(t, f, []impl.Entry{e}, 1, text)
			wantDecoded(t, f, text, e)
		}
	}
}

// Roles beside each other, and a field whose auto label decides.
func TestExportByLabel(t *testing.T) {
	f := soundText(t, diamond+fourRoles+"field a int at low;field b int at l;field c int at r;field d int at top;field e int at auto when b;")
	log := []impl.Entry{}
	for k := range 5 {
		log = append(log, entry(k%4, k, whole(int64(k))))
	}
	wantExport(t, f, log, low, "1 rlow a 0\n")
	wantExport(t, f, log, left, "1 rlow a 0\n2 rl b 1\n3 rlow e 4\n")
	wantExport(t, f, log, right, "1 rlow a 0\n2 rr c 2\n")
	wantExport(t, f, log, top, "1 rlow a 0\n2 rl b 1\n3 rr c 2\n4 rtop d 3\n5 rlow e 4\n")
}

func TestExportAtItsLimit(t *testing.T) {
	f := soundText(t, ledger)
	log := []impl.Entry{}
	for i := range impl.MaxSteps {
		log = append(log, entry(i%2, 2*(i/2%2), blank()))
	}
	all := plainWrite(f, log)
	if !strings.HasSuffix(all, "\n4000 boss s blank\n") {
		t.Fatalf("%q", all[len(all)-40:])
	}
	wantExport(t, f, log, 1, all)
	wantDecoded(t, f, all, log...)
	wantExport(t, f, append(log, log[0]), 1, "")
	wantExport(t, f, append(log, log[0]), 0, "")
	wantNotDecoded(t, f, all+"4001 clerk a blank\n")
	wantNotDecoded(t, f, all+"4001 clerk a blank")
	// what is left out counts for the limit of the log, and not for the numbers
	seen := impl.Export(f, log, 0)
	if !strings.HasSuffix(seen, "\n2000 boss a blank\n") {
		t.Errorf("%q", seen[len(seen)-40:])
	}
	hidden := slices.Repeat([]impl.Entry{entry(1, 2, blank())}, impl.MaxSteps-1)
	wantExport(t, f, append(hidden, log[0]), 0, "1 clerk a blank\n")
	wantExport(t, f, append(hidden, log[0], log[0]), 0, "")
	long := append([]impl.Entry{}, slices.Repeat([]impl.Entry{entry(1, 2, words(long(1000)))}, 200)...)
	wantExport(t, f, long, 1, plainWrite(f, long))
	wantDecoded(t, f, plainWrite(f, long), long...)
}

func TestExportWrongArguments(t *testing.T) {
	f := soundText(t, ledger)
	good := entry(0, 0, whole(1))
	refuse := func(e impl.Entry) {
		t.Helper()
		for _, log := range [][]impl.Entry{{e}, {good, e}, {e, good}} {
			wantExport(t, f, log, 0, "")
			wantExport(t, f, log, 1, "")
		}
	}
	for _, r := range notARole(2) {
		wantExport(t, f, []impl.Entry{good}, r, "")
		refuse(entry(r, 0, whole(1)))
		refuse(entry(r, 2, words("a")))
	}
	for _, k := range []int{-1, 5, 6, -5, 1 << 40, math.MaxInt, math.MinInt} {
		refuse(entry(0, k, blank()))
	}
	refuse(entry(0, 3, blank()))
	refuse(entry(0, 3, whole(1)))
	for _, v := range wrongValues() {
		for k := range f.Fields {
			refuse(entry(0, k, v))
		}
	}
	// a wrong entry that would be left out is as wrong as any other
	refuse(entry(1, 2, whole(1)))
	refuse(entry(1, 2, fault(1)))
	for what, form := range notSoundForms(t) {
		log := []impl.Entry{}
		if len(form.Fields) > 0 && len(form.Roles) > 0 {
			log = append(log, entry(0, 0, blank()))
		}
		for r := range max(len(form.Roles), 1) {
			if got := impl.Export(form, log, r); got != "" {
				t.Errorf("%s: %q", what, got)
			}
		}
		wantNotDecoded(t, form, "")
		wantNotDecoded(t, form, "1 r a blank\n")
	}
}

func TestDecodeNearExports(t *testing.T) {
	f := soundText(t, ledger)
	wantDecoded(t, f, "1 clerk a 5\n2 boss s \"x y\"\n", entry(0, 0, whole(5)), entry(1, 2, words("x y")))
	for _, text := range []string{
		// the number
		"0 clerk a 5\n", "2 clerk a 5\n", "01 clerk a 5\n", "+1 clerk a 5\n", "-1 clerk a 5\n", "1. clerk a 5\n", "x clerk a 5\n", " clerk a 5\n", "clerk a 5\n", "1\tclerk a 5\n", "１ clerk a 5\n", "\"1\" clerk a 5\n", "true clerk a 5\n",
		"1 clerk a 5\n1 clerk a 5\n", "1 clerk a 5\n3 clerk a 5\n", "1 clerk a 5\n02 clerk a 5\n", "2 clerk a 5\n1 clerk a 5\n", "1 clerk a 5\nclerk a 5\n", "1 clerk a 5\n 2 clerk a 5\n", "18446744073709551617 clerk a 5\n",
		// the spaces
		" 1 clerk a 5\n", "1  clerk a 5\n", "1 clerk  a 5\n", "1 clerk a  5\n", "1 clerk a 5 \n", "1clerk a 5\n", "1 clerka 5\n", "1 clerk a5\n", "1 clerk a\n", "1 clerk a \n", "1 clerk\n", "1 clerk \n", "1\n", "1 \n", "1 clerk a\t5\n", "1 clerk\u00a0a 5\n",
		// the newlines
		"1 clerk a 5", "\n1 clerk a 5\n", "1 clerk a 5\n\n", "\n", " ", " \n", "1 clerk a 5\r\n", "1 clerk a 5\n\r", "1 clerk a 5\n2 boss a 5", "1 clerk a 5\n\n2 boss a 5\n", "1 clerk a 5 2 boss a 5\n", "1 clerk\na 5\n", "1 clerk a\n5\n", "1 clerk s \"x\ny\"\n", "1 clerk a 5\n2", "1 clerk a 5\n ", "1 clerk a 5\x00",
		// the role
		"1 clark a 5\n", "1  a 5\n", "1 Clerk a 5\n", "1 low a 5\n", "1 a a 5\n", "1 0 a 5\n", "1 clerk_ a 5\n", "1 cler a 5\n",
		// the field
		"1 clerk x 5\n", "1 clerk  5\n", "1 clerk A 5\n", "1 clerk clerk 5\n", "1 clerk 0 5\n", "1 clerk sum 5\n", "1 clerk sum blank\n", "1 boss sum blank\n", "1 clerk su 5\n", "1 a clerk 5\n",
		// the value
		"1 clerk a true\n", "1 clerk a \"5\"\n", "1 clerk a 05\n", "1 clerk a +5\n", "1 clerk a -0\n", "1 clerk a 5x\n", "1 clerk a x\n", "1 clerk a !1\n", "1 clerk a !3\n", "1 clerk a ?\n", "1 clerk a Blank\n", "1 clerk a 9223372036854775808\n", "1 clerk a 5 6\n",
		"1 clerk b 1\n", "1 clerk b \"true\"\n", "1 clerk b True\n", "1 clerk b !1\n", "1 clerk s x\n", "1 clerk s \"x\n", "1 clerk s x\"\n", "1 clerk s \"x\" \n", "1 clerk s \"\"\"\n", "1 clerk s 5\n", "1 clerk s true\n", "1 clerk s \"\t\"\n", "1 clerk s \"é\"\n", "1 clerk s \"" + long(1001) + "\"\n", "1 boss s !1\n",
		// one wrong line among good ones
		"1 clerk a 5\n2 clerk a x\n3 clerk a 5\n", "1 clerk a x\n2 clerk a 5\n", "1 clerk a 5\n2 clerk sum 5\n",
		strings.Repeat("\n", 4000), strings.Repeat("\n", 100000), strings.Repeat("1 clerk a 5\n", 2), strings.Repeat(" ", 100000),
	} {
		wantNotDecoded(t, f, text)
		if _, ok := plainDecode(f, text); ok {
			t.Errorf("%.100q should be decoded", text)
		}
	}
}

func TestDecodeEveryByte(t *testing.T) {
	f := soundText(t, ledger)
	text := "1 clerk a 5\n2 boss s \"x\"\n"
	for b := range 256 {
		for at := range len(text) + 1 {
			for _, near := range []string{text[:at] + string([]byte{byte(b)}) + text[at:], text[:at] + string([]byte{byte(b)}) + text[min(at+1, len(text)):]} {
				wantDecodedAsPlain(t, f, near)
			}
		}
	}
}

func wantDecodedAsPlain(t *testing.T, f impl.Form, text string) bool {
	t.Helper()
	want, ok := plainDecode(f, text)
	if ok {
		wantDecoded(t, f, text, want...)
	} else {
		wantNotDecoded(t, f, text)
	}
	return ok
}

func TestExportAnswersAreNew(t *testing.T) {
	f := soundText(t, ledger)
	log := []impl.Entry{entry(0, 0, whole(5))}
	text := impl.Export(f, log, 0)
	first, _ := impl.DecodeExport(f, text)
	second, _ := impl.DecodeExport(f, text)
	first[0] = impl.Entry{}
	if second[0] != log[0] || log[0] != entry(0, 0, whole(5)) {
		t.Errorf("%v and %v", second, log)
	}
}

// Promise 13, over mixed forms and logs, and over texts near an export.
func TestExportMixed(t *testing.T) {
	m := mixer(53)
	decoded, left := map[bool]int{}, 0
	for range 700 {
		f := mixedSound(&m, mixedLattice(&m), 1+m.below(8))
		log := mixedLog(&m, f, m.below(14))
		for r := range f.Roles {
			text := plainExport(f, log, r)
			wantExport(t, f, log, r, text)
			seen := plainSeen(log, plainSees(f)[r])
			wantDecoded(t, f, text, seen...)
			left += len(log) - len(seen)
		}
		all := plainWrite(f, log)
		wantDecoded(t, f, all, log...)
		for range 4 {
			decoded[wantDecodedAsPlain(t, f, nearText(&m, all))]++
		}
		if len(log) > 0 {
			log[m.below(len(log))] = entry(m.below(4)-1, m.below(len(f.Fields)+2)-1, mixedFitting(&m, 1+m.below(3)))
			wantExport(t, f, log, 0, plainExport(f, log, 0))
		}
	}
	if left < 500 || decoded[true] < 100 || decoded[false] < 1000 {
		t.Errorf("%d entries left out, decoded: %v", left, decoded)
	}
}

// mixedLog is empty if all fields are calculated.
func mixedLog(m *mixer, f impl.Form, size int) []impl.Entry {
	open := []int{}
	for k, x := range f.Fields {
		if len(x.Is) == 0 {
			open = append(open, k)
		}
	}
	log := []impl.Entry{}
	for range size {
		if len(open) > 0 {
			k := open[m.below(len(open))]
			log = append(log, entry(m.below(len(f.Roles)), k, mixedFitting(m, f.Fields[k].Type)))
		}
	}
	return log
}

// nearText changes, puts in or takes out one byte, or swaps two lines.
func nearText(m *mixer, text string) string {
	const bytes = " \n0123456789rfabt\"-!"
	at := m.below(len(text) + 1)
	one := string(bytes[m.below(len(bytes))])
	switch m.below(4) {
	case 0:
		return text[:at] + one + text[at:]
	case 1:
		return text[:at] + text[min(at+1, len(text)):]
	case 2:
		return text[:at] + one + text[min(at+1, len(text)):]
	}
	lines := strings.SplitAfter(text, "\n")
	i, j := m.below(len(lines)), m.below(len(lines))
	lines[i], lines[j] = lines[j], lines[i]
	return strings.Join(lines, "")
}
