package tests

import (
	"slices"
	"strings"
	"testing"

	"loop.example/s0011/impl"
)

func TestValidValueTakesEveryKind(t *testing.T) {
	for _, v := range someValues() {
		if !impl.ValidValue(v) {
			t.Errorf("%v is not valid", v)
		}
	}
}

func TestValidValueRefuses(t *testing.T) {
	for _, v := range wrongValues() {
		if impl.ValidValue(v) {
			t.Errorf("%v is valid", v)
		}
	}
}

func TestValidValueEveryByte(t *testing.T) {
	for b := range 256 {
		want := b >= 32 && b <= 126 && b != 34
		for _, s := range []string{string([]byte{byte(b)}), "a" + string([]byte{byte(b)}), string([]byte{byte(b)}) + "a"} {
			if impl.ValidValue(words(s)) != want {
				t.Errorf("the text %q is valid: %v", s, !want)
			}
		}
	}
}

func TestValidValueAllSmallOnes(t *testing.T) {
	for kind := -2; kind <= 8; kind++ {
		for num := int64(-3); num <= 8; num++ {
			for _, s := range []string{"", "a", "1", `"`, long(1000), long(1001)} {
				v := impl.Value{Kind: kind, Num: num, Text: s}
				if impl.ValidValue(v) != plainValid(v) {
					t.Errorf("%v is valid: %v", v, !plainValid(v))
				}
			}
		}
	}
}

func wantShow(t *testing.T, v impl.Value, want string) {
	t.Helper()
	if got := impl.ShowValue(v); got != want {
		t.Errorf("%v is shown as %q, want %q", v, got, want)
	}
}

func TestShowValueWrittenOut(t *testing.T) {
	wantShow(t, blank(), "blank")
	wantShow(t, whole(0), "0")
	wantShow(t, whole(12), "12")
	wantShow(t, whole(-12), "-12")
	wantShow(t, whole(smallest), "-9223372036854775808")
	wantShow(t, whole(largest), "9223372036854775807")
	wantShow(t, yes(), "true")
	wantShow(t, no(), "false")
	wantShow(t, words(""), `""`)
	wantShow(t, words("a b"), `"a b"`)
	wantShow(t, words(`a\n`), `"a\n"`)
	wantShow(t, words(long(1000)), `"`+long(1000)+`"`)
	for n, want := range []string{"!1", "!2", "!3", "!4", "!5"} {
		wantShow(t, fault(int64(n)+1), want)
	}
}

func TestShowValueOfWrongOnes(t *testing.T) {
	for _, v := range wrongValues() {
		wantShow(t, v, "?")
	}
}

func wantRead(t *testing.T, s string, want impl.Value) {
	t.Helper()
	got, ok := impl.ReadValue(s)
	if !ok || got != want {
		t.Errorf("%q reads as %v %v, want %v", s, got, ok, want)
	}
}

func wantRefused(t *testing.T, s string) {
	t.Helper()
	got, ok := impl.ReadValue(s)
	if ok || got != blank() {
		t.Errorf("%q reads as %v %v, want it refused with the blank value", s, got, ok)
	}
}

func TestReadValueWrittenOut(t *testing.T) {
	wantRead(t, "blank", blank())
	wantRead(t, "0", whole(0))
	wantRead(t, "5", whole(5))
	wantRead(t, "10", whole(10))
	wantRead(t, "-7", whole(-7))
	wantRead(t, "-9223372036854775808", whole(smallest))
	wantRead(t, "9223372036854775807", whole(largest))
	wantRead(t, "true", yes())
	wantRead(t, "false", no())
	wantRead(t, `""`, words(""))
	wantRead(t, `"-7"`, words("-7"))
	wantRead(t, `" "`, words(" "))
	wantRead(t, `"blank"`, words("blank"))
	wantRead(t, `"!1"`, words("!1"))
	wantRead(t, `"\"`, words(`\`))
	wantRead(t, `"`+long(1000)+`"`, words(long(1000)))
}

// Promise 4, its first half: what is shown is read back.
func TestReadValueOfShowValue(t *testing.T) {
	for _, v := range someValues() {
		if v.Kind == impl.KErr {
			wantRefused(t, impl.ShowValue(v))
		} else {
			wantRead(t, impl.ShowValue(v), v)
		}
	}
	m := mixer(2)
	for range 2000 {
		n := mixedNumber(&m)
		wantRead(t, impl.ShowValue(whole(n)), whole(n))
		s := mixedText(&m, m.below(12))
		wantRead(t, impl.ShowValue(words(s)), words(s))
	}
}

func mixedText(m *mixer, size int) string {
	b := []byte{}
	for len(b) < size {
		if c := byte(32 + m.below(95)); c != '"' {
			b = append(b, c)
		}
	}
	return string(b)
}

func refusedTexts() []string {
	return []string{
		"", " ", "\n", "?", "-", "+", "--1", "-+1", "+-1", "+0", "+1", "-0", "-00", "00", "01", "-01", "007", "0x1", "0b1", "0o1", "1_0", "_1", "1e2", "1.0", "1.", ".5", "1,000", "१", "－1",
		"9223372036854775808", "-9223372036854775809", "18446744073709551615", "18446744073709551616", "-18446744073709551616", "99999999999999999999", "1" + strings.Repeat("0", 1000),
		"blank ", " blank", "Blank", "BLANK", "blan", "blanks", "nil", "true ", " true", "True", "TRUE", "t", "T", "False", "FALSE", "f", "yes",
		`"`, `"a`, `a"`, `a`, `'a'`, `"a"b`, `"a"b"`, `"""`, `""""`, `" `, ` ""`, `"" `, `"a" `, "\"a\"\n", "\"a\nb\"", "\"\x1f\"", "\"\x7f\"", "\"\x80\"", "\"é\"", "\"\xff\"", "\"\x00\"", "\"\t\"",
		`"` + long(1001) + `"`, `"` + long(1000), long(1000) + `"`, `"` + long(999) + "\n" + `"`,
		"!", "!0", "!1", "!2", "!3", "!4", "!5", "!6", "!-1", "! 1", "!!", "!1 ", `!"a"`, "!blank", "!true",
	}
}

// Promise 4, its second half: no other text is read.
func TestReadValueRefuses(t *testing.T) {
	for _, s := range refusedTexts() {
		wantRefused(t, s)
	}
	for _, v := range wrongValues() {
		wantRefused(t, impl.ShowValue(v))
		wantRefused(t, `"`+v.Text+`x`)
	}
	for _, s := range []string{"0", "-5", "true", "false", "blank", `"a"`} {
		for _, around := range []string{" ", "\n", "\t", "\r", "\x00", "!"} {
			wantRefused(t, around+s)
			wantRefused(t, s+around)
		}
		wantRefused(t, "+"+s)
	}
}

func TestReadValueWrongTextsInQuotes(t *testing.T) {
	for _, v := range wrongValues() {
		if v.Kind == impl.KText && v.Num == 0 {
			wantRefused(t, `"`+v.Text+`"`)
		}
	}
}

func textsOver(letters string, size int) []string {
	all, last := []string{""}, []string{""}
	for range size {
		longer := []string{}
		for _, s := range last {
			for i := range len(letters) {
				longer = append(longer, s+letters[i:i+1])
			}
		}
		all, last = append(all, longer...), longer
	}
	return all
}

func wantReadAs(t *testing.T, s string) {
	t.Helper()
	want, ok := plainRead(s)
	if ok {
		wantRead(t, s, want)
	} else {
		wantRefused(t, s)
	}
}

func TestReadValueEveryShortText(t *testing.T) {
	for _, s := range textsOver("019-+ !\"a?\n", 4) {
		wantReadAs(t, s)
	}
}

// A byte is put in, taken out or changed in what is shown: mostly that is no showing any more, and sometimes one of another value.
func TestReadValueNearShowings(t *testing.T) {
	m := mixer(3)
	for _, v := range someValues() {
		shown := []byte(plainShow(v))
		for range 200 {
			i, c := m.below(len(shown)), byte(m.below(256))
			if m.below(2) == 0 {
				c = "0123456789-+ \"!"[m.below(15)]
			}
			wantReadAs(t, string(slices.Insert(slices.Clone(shown), i, c)))
			wantReadAs(t, string(append(slices.Clone(shown), c)))
			wantReadAs(t, string(slices.Delete(slices.Clone(shown), i, i+1)))
			changed := slices.Clone(shown)
			changed[i] = c
			wantReadAs(t, string(changed))
		}
	}
}

func TestReadValueAroundTheLastIntegers(t *testing.T) {
	for _, sign := range []string{"", "-"} {
		for _, head := range []string{"922337203685477580", "922337203685477579", "922337203685477581", "1844674407370955161", "92233720368547758", "00922337203685477580"} {
			for tail := range 10 {
				wantReadAs(t, sign+head+string(rune('0'+tail)))
			}
		}
	}
}

func TestReadValueShowsAsItWasRead(t *testing.T) {
	for _, s := range textsOver("10-\"t", 5) {
		v, ok := impl.ReadValue(s)
		if ok && (!impl.ValidValue(v) || v.Kind == impl.KErr || impl.ShowValue(v) != s) {
			t.Errorf("%q is read as %v, which is shown as %q", s, v, impl.ShowValue(v))
		}
	}
}
