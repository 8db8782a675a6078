package colour_test

import (
	"math"
	"slices"
	"strings"
	"testing"

	"mudlark/api"
	"mudlark/colour"
)

// others are words that are no colour: those next to the colours, and those that are a colour in their lower bits.
func others() []api.Word {
	l := []api.Word{3, 4, 5, 7, 'w', 'g', 'b', '?', math.MaxInt64, math.MaxUint64 - 1, math.MaxUint64}
	for b := 3; b < 64; b++ {
		for c := range api.Word(3) {
			l = append(l, api.Word(1)<<b+c)
		}
	}
	return l
}

// each are the colours, with their names and letters.
func each(check func(c api.Word, name, letter string)) {
	check(api.White, "white", "w")
	check(api.Grey, "grey", "g")
	check(api.Black, "black", "b")
}

// P2.1

func TestName(t *testing.T) {
	each(func(c api.Word, name, _ string) {
		if s := colour.Name(c); s != name {
			t.Errorf("Name(%d) = %q, not %q", c, s, name)
		}
	})
	for _, c := range others() {
		if s := colour.Name(c); s != "" {
			t.Errorf("Name(%d) = %q", c, s)
		}
	}
}

func TestCode(t *testing.T) {
	each(func(want api.Word, name, _ string) {
		if c, ok := colour.Code(name); c != want || !ok {
			t.Errorf("Code(%q) = %d, %v", name, c, ok)
		}
	})
}

func TestCodeRefuses(t *testing.T) {
	for _, name := range []string{
		"", " ", "?", "w", "g", "b", "wgb", "whitegreyblack", "red", "gray", "0", "1", "2",
		"White", "WHITE", "Grey", "GREY", "Black", "BLACK", "blacK",
		" white", "white ", " grey", "grey ", " black", "black ", "wh ite", "black\n", "\tgrey",
		"whit", "hite", "whites", "gre", "blac", "lack",
		"\x00", "white\x00", "\x00grey", "black\xff", "\xff", "ｗhite",
		strings.Repeat("white", 1<<16),
	} {
		if c, ok := colour.Code(name); c != 0 || ok {
			t.Errorf("Code(%.40q) = %d, %v", name, c, ok)
		}
	}
}

func TestShaded(t *testing.T) {
	if c := colour.Shaded(api.White); c != api.Grey {
		t.Errorf("white is shaded to %d", c)
	}
	for _, c := range append(others(), api.Grey, api.Black) {
		if d := colour.Shaded(c); d != c {
			t.Errorf("Shaded(%d) = %d", c, d)
		}
	}
}

// P2.2

func TestLetters(t *testing.T) {
	each(func(c api.Word, _, letter string) {
		if s := colour.Letters(c); s != letter {
			t.Errorf("Letters(%d) = %q, not %q", c, s, letter)
		}
	})
	for _, c := range others() {
		if s := colour.Letters(api.Black, c, api.White); s != "b?w" {
			t.Errorf("Letters(2, %d, 0) = %q", c, s)
		}
	}
	for _, c := range []struct {
		l []api.Word
		s string
	}{
		{nil, ""}, {[]api.Word{}, ""}, {[]api.Word{0, 2}, "wb"}, {[]api.Word{2, 0}, "bw"},
		{[]api.Word{0, 1, 2, 3}, "wgb?"}, {[]api.Word{math.MaxUint64, 1, 1, 3, 0}, "?gg?w"},
	} {
		if s := colour.Letters(c.l...); s != c.s {
			t.Errorf("Letters(%v) = %q, not %q", c.l, s, c.s)
		}
	}
}

func TestCount(t *testing.T) {
	for _, c := range []struct {
		l                  []api.Word
		white, grey, black int
	}{
		{nil, 0, 0, 0}, {[]api.Word{}, 0, 0, 0},
		{[]api.Word{0}, 1, 0, 0}, {[]api.Word{1}, 0, 1, 0}, {[]api.Word{2}, 0, 0, 1},
		{[]api.Word{2, 1, 2, 0, 2, 1}, 1, 2, 3}, {[]api.Word{0, 2, 2, 7}, 1, 0, 2},
		{[]api.Word{math.MaxUint64, 1, 3}, 0, 1, 0}, {others(), 0, 0, 0},
	} {
		white, grey, black := colour.Count(c.l...)
		if white != c.white || grey != c.grey || black != c.black {
			t.Errorf("Count(%v) = %d, %d, %d", c.l, white, grey, black)
		}
	}
}

func TestParse(t *testing.T) {
	for _, c := range []struct {
		s string
		l []api.Word
	}{
		{"", nil}, {"w", []api.Word{0}}, {"g", []api.Word{1}}, {"b", []api.Word{2}},
		{"gbw", []api.Word{1, 2, 0}}, {"bbwwg", []api.Word{2, 2, 0, 0, 1}},
	} {
		if l, e := colour.Parse(c.s); !slices.Equal(l, c.l) || e != api.OK {
			t.Errorf("Parse(%q) = %v, %d", c.s, l, e)
		}
	}
}

// Every byte but the three letters is refused, wherever it stands.
func TestParseRefuses(t *testing.T) {
	for b := range 256 {
		s := string([]byte{byte(b)})
		if strings.Contains("wgb", s) {
			continue
		}
		for _, s := range []string{s, s + "wgb", "wg" + s + "b", "wgb" + s, s + s} {
			checkRefused(t, s)
		}
	}
	for _, s := range []string{"white", "W", "wgB", "w g b", "wgb\n", "é", "ｗ", strings.Repeat("b", 1<<16) + "?"} {
		checkRefused(t, s)
	}
}

func checkRefused(t *testing.T, s string) {
	t.Helper()
	if l, e := colour.Parse(s); len(l) != 0 || e != api.ErrForm {
		t.Errorf("Parse(%.40q) = %v, %d", s, l, e)
	}
}

func TestColoursComeBack(t *testing.T) {
	var l []api.Word
	for i := range 1 << 12 {
		l = append(l, api.Word(i*i/5%3))
	}
	s := colour.Letters(l...)
	if back, e := colour.Parse(s); !slices.Equal(back, l) || e != api.OK {
		t.Errorf("%q comes back as %v, %d", s, back, e)
	}
	white, grey, black := colour.Count(l...)
	if white != strings.Count(s, "w") || grey != strings.Count(s, "g") || black != strings.Count(s, "b") {
		t.Errorf("%q has %d, %d, %d", s, white, grey, black)
	}
}

// R4: a list that is handed in stays as it is, and what lies behind its length is not read.
func TestListsStay(t *testing.T) {
	l := []api.Word{0, 1, 2, 9, 2, 2}
	if s := colour.Letters(l[:4]...); s != "wgb?" {
		t.Error(s)
	}
	if white, grey, black := colour.Count(l[:4]...); white != 1 || grey != 1 || black != 1 {
		t.Error(white, grey, black)
	}
	if !slices.Equal(l, []api.Word{0, 1, 2, 9, 2, 2}) {
		t.Error(l)
	}
}

// R4: an answer may be written over and grown, and nothing else changes by it.
func TestParseAnswersNewLists(t *testing.T) {
	a, _ := colour.Parse("wgb")
	b, _ := colour.Parse("wgb")
	clear(a)
	a = append(a[:1], 7, 7, 7, 7)
	if c, e := colour.Parse("wgb"); !slices.Equal(b, []api.Word{0, 1, 2}) || !slices.Equal(c, b) || e != api.OK {
		t.Error(a, b, c, e)
	}
	if s := colour.Letters(0, 1, 2); s != "wgb" {
		t.Error(s)
	}
}

// P1

func TestLongLists(t *testing.T) {
	const n = 1 << 20
	l := make([]api.Word, n)
	s := colour.Letters(l...)
	if s != strings.Repeat("w", n) {
		t.Error("letters")
	}
	if white, grey, black := colour.Count(l...); white != n || grey != 0 || black != 0 {
		t.Error(white, grey, black)
	}
	if back, e := colour.Parse(s); !slices.Equal(back, l) || e != api.OK {
		t.Error(len(back), e)
	}
}

func FuzzTexts(f *testing.F) {
	for _, s := range []string{"", "wgb", "wg?", "?", "white", "grey", "black", "W", "\x00", "\xff"} {
		f.Add(s)
	}
	f.Fuzz(func(t *testing.T, s string) {
		l, e := colour.Parse(s)
		if e == api.OK && colour.Letters(l...) != s || e != api.OK && (e != api.ErrForm || len(l) != 0) {
			t.Errorf("Parse(%q) = %v, %d", s, l, e)
		}
		if (strings.Trim(s, "wgb") == "") != (e == api.OK) {
			t.Errorf("Parse(%q) = %v, %d", s, l, e)
		}
		if c, ok := colour.Code(s); ok && colour.Name(c) != s || !ok && c != 0 {
			t.Errorf("Code(%q) = %d, %v", s, c, ok)
		}
	})
}
