package word_test

import (
	"math"
	"slices"
	"strconv"
	"strings"
	"testing"

	"mudlark/api"
	"mudlark/word"
)

// many are words of all kinds: all small ones, and those about each power of two.
func many() []api.Word {
	var l []api.Word
	for w := range api.Word(4 * api.MaxCells) {
		l = append(l, w)
	}
	for b := 15; b < 64; b++ {
		for d := range api.Word(8) {
			l = append(l, api.Word(1)<<b-4+d)
		}
	}
	for d := range api.Word(8) {
		l = append(l, math.MaxUint64-d)
	}
	slices.Sort(l)
	return slices.Compact(l)
}

// P1.1

func TestAtom(t *testing.T) {
	for _, c := range []struct {
		k int
		w api.Word
	}{
		{0, api.Nil}, {1, 2}, {3, 6}, {4095, 8190}, {4096, 8192},
		{math.MaxInt - 1, math.MaxUint64 - 3}, {math.MaxInt, math.MaxUint64 - 1},
		{-1, api.Nil}, {-2, api.Nil}, {math.MinInt, api.Nil}, {math.MinInt + 1, api.Nil},
	} {
		if w := word.Atom(c.k); w != c.w {
			t.Errorf("Atom(%d) = %d, not %d", c.k, w, c.w)
		}
	}
}

func TestCell(t *testing.T) {
	for _, c := range []struct {
		i int
		w api.Word
	}{
		{0, 1}, {1, 3}, {3, 7}, {4094, 8189}, {4095, 8191},
		{4096, api.Nil}, {4097, api.Nil}, {math.MaxInt, api.Nil},
		{-1, api.Nil}, {-4096, api.Nil}, {math.MinInt, api.Nil},
		{1 << 62, api.Nil}, {math.MinInt + 3, api.Nil},
	} {
		if w := word.Cell(c.i); w != c.w {
			t.Errorf("Cell(%d) = %d, not %d", c.i, w, c.w)
		}
	}
}

func TestIsAtomIsCell(t *testing.T) {
	for _, c := range []struct {
		w          api.Word
		k          int
		atom, cell bool
	}{
		{api.Nil, 0, true, false}, {1, 0, false, true},
		{6, 3, true, false}, {7, 3, false, true},
		{8190, 4095, true, false}, {8191, 4095, false, true},
		{8192, 4096, true, false}, {8193, 0, false, false}, {8195, 0, false, false},
		{1 << 63, 1 << 62, true, false}, {1<<63 + 1, 0, false, false},
		{math.MaxUint64 - 1, math.MaxInt, true, false}, {math.MaxUint64, 0, false, false},
	} {
		checkKind(t, "IsAtom", word.IsAtom, c.w, c.k, c.atom)
		checkKind(t, "IsCell", word.IsCell, c.w, c.k, c.cell)
	}
}

func checkKind(t *testing.T, name string, is func(api.Word) (int, bool), w api.Word, k int, want bool) {
	t.Helper()
	if !want {
		k = 0 // beside false stands the zero value
	}
	if n, ok := is(w); n != k || ok != want {
		t.Errorf("%s(%d) = %d, %v, not %d, %v", name, w, n, ok, k, want)
	}
}

func TestNumbersComeBack(t *testing.T) {
	for i := range api.MaxCells {
		if n, ok := word.IsCell(word.Cell(i)); n != i || !ok {
			t.Errorf("cell %d comes back as %d, %v", i, n, ok)
		}
	}
	for b := range 63 {
		for _, k := range []int{1<<b - 1, 1 << b, 1<<b + 1} {
			if n, ok := word.IsAtom(word.Atom(k)); n != k || !ok {
				t.Errorf("atom %d comes back as %d, %v", k, n, ok)
			}
		}
	}
}

func TestNoWordIsBoth(t *testing.T) {
	for _, w := range many() {
		k, atom := word.IsAtom(w)
		i, cell := word.IsCell(w)
		switch {
		case atom && cell:
			t.Errorf("%d is atom and cell", w)
		case atom && word.Atom(k) != w, cell && word.Cell(i) != w:
			t.Errorf("%d is not the word of its number", w)
		case !atom && !cell && (w%2 == 0 || w/2 < api.MaxCells):
			t.Errorf("%d is neither", w)
		}
	}
}

// P1.2

func TestText(t *testing.T) {
	for _, c := range []struct {
		w api.Word
		s string
	}{
		{api.Nil, "0"}, {1, "#0"}, {2, "1"}, {6, "3"}, {7, "#3"}, {20, "10"}, {21, "#10"},
		{8190, "4095"}, {8191, "#4095"}, {8192, "4096"}, {8193, "?4096"},
		{1 << 63, "4611686018427387904"}, {1<<63 + 1, "?4611686018427387904"},
		{math.MaxUint64 - 1, "9223372036854775807"}, {math.MaxUint64, "?9223372036854775807"},
	} {
		if s := word.Text(c.w); s != c.s {
			t.Errorf("Text(%d) = %q, not %q", c.w, s, c.s)
		}
		if w, e := word.Parse(c.s); w != c.w || e != api.OK {
			t.Errorf("Parse(%q) = %d, %d, not %d", c.s, w, e, c.w)
		}
	}
}

func TestParseRefuses(t *testing.T) {
	for _, s := range []string{
		"", "#", "?", "##", "??", "#?", "##0", "?#5000", "#?5000",
		"00", "01", "007", "#00", "#01", "#04095", "?04096", "?00005000",
		"-0", "-1", "+0", "+1", "#-1", "#+1", "?-1", "?+5000", "-", "+",
		"#4096", "#8191", "#9223372036854775807", "?0", "?1", "?4095",
		"9223372036854775808", "18446744073709551615", "18446744073709551616", "#18446744073709551616",
		"?9223372036854775808", "?18446744073709551615", "36893488147419103232",
		" ", " 1", "1 ", "1\n", "\t1", "# 1", "1 2", "1#", "1?", "#1#", "1_000", "#1_0",
		"a", "nil", "#a", "0x1", "1e3", "1.0", "0b1", "!5",
		"\x00", "1\x00", "\x001", "#\x00", "\xff", "1\xff", "#\xff", "é", "１", "٣",
		strings.Repeat("0", 1<<16), strings.Repeat("9", 1<<16), "#" + strings.Repeat("1", 1<<16),
	} {
		if w, e := word.Parse(s); w != 0 || e != api.ErrForm {
			t.Errorf("Parse(%.40q) = %d, %d", s, w, e)
		}
	}
}

// Every text of up to three bytes is parsed just as Text says.
func TestParseShortTexts(t *testing.T) {
	texts := map[string]api.Word{}
	for _, w := range many() {
		texts[word.Text(w)] = w
	}
	check := func(b ...byte) {
		want, ok := texts[string(b)]
		w, e := word.Parse(string(b))
		if w != want || (e == api.OK) != ok || !ok && e != api.ErrForm {
			t.Errorf("Parse(%q) = %d, %d", b, w, e)
		}
	}
	const bytes = "#?0123456789+-_ ax./:\x00\x80\xff"
	check()
	for a := range 256 {
		check(byte(a))
		for b := range 256 {
			check(byte(a), byte(b))
		}
	}
	for _, a := range []byte(bytes) {
		for _, b := range []byte(bytes) {
			for _, c := range []byte(bytes) {
				check(a, b, c)
			}
		}
	}
}

// P1.3

func TestCells(t *testing.T) {
	for _, c := range []struct {
		l []api.Word
		n []int
	}{
		{nil, nil}, {[]api.Word{}, nil}, {[]api.Word{0, 2, 8193, math.MaxUint64}, nil},
		{[]api.Word{1}, []int{0}}, {[]api.Word{8191}, []int{4095}},
		{[]api.Word{7, 6, 8193, 1}, []int{3, 0}},
		{[]api.Word{0, 9, 3, 9, 9, 2, 8191, 3}, []int{4, 1, 4, 4, 4095, 1}},
	} {
		before := slices.Clone(c.l)
		cells := word.Cells(c.l...)
		if cells == nil {
			t.Fatalf("Cells(%v) is nil", c.l)
		}
		for range 2 {
			if n := slices.Collect(cells); !slices.Equal(n, c.n) {
				t.Errorf("Cells(%v) = %v, not %v", c.l, n, c.n)
			}
		}
		if !slices.Equal(c.l, before) {
			t.Errorf("%v was changed to %v", before, c.l)
		}
	}
}

func TestCellsOfAllWords(t *testing.T) {
	next := 0
	for i := range word.Cells(many()...) {
		if i != next {
			t.Fatalf("cell %d where %d should be", i, next)
		}
		next++
	}
	if next != api.MaxCells {
		t.Errorf("%d cells", next)
	}
}

func TestCellsCanBeLeft(t *testing.T) {
	var n []int
	for i := range word.Cells(1, 0, 3, 5, 7) {
		n = append(n, i)
		if i == 1 {
			break
		}
	}
	if !slices.Equal(n, []int{0, 1}) {
		t.Error(n)
	}
}

// R4: the answer hangs on the values that were handed in, not on their memory.
func TestCellsKeepsNoMemory(t *testing.T) {
	l := []api.Word{1, 3, 5, 7}
	cells := word.Cells(l[:3]...)
	clear(l)
	l[1] = 9
	if n := slices.Collect(cells); !slices.Equal(n, []int{0, 1, 2}) {
		t.Error(n)
	}
	if !slices.Equal(l, []api.Word{0, 9, 0, 0}) {
		t.Error(l)
	}
}

// P1.4

func TestUnlikeWordsUnlikeTexts(t *testing.T) {
	had := map[string]api.Word{}
	for _, w := range many() {
		s := word.Text(w)
		if v, ok := had[s]; ok {
			t.Errorf("%d and %d are both %q", v, w, s)
		}
		had[s] = w
		if v, e := word.Parse(s); v != w || e != api.OK {
			t.Errorf("%d is %q, which is %d, %d", w, s, v, e)
		}
	}
}

// P1

func TestEveryCallEnds(t *testing.T) {
	numbers := []int{math.MinInt, math.MaxInt}
	for b := range 63 {
		for d := -2; d <= 2; d++ {
			numbers = append(numbers, 1<<b+d, -(1<<b)+d)
		}
	}
	for _, n := range numbers {
		if k, ok := word.IsAtom(word.Atom(n)); !ok || k != max(n, 0) {
			t.Errorf("Atom(%d)", n)
		}
		if _, ok := word.IsCell(word.Cell(n)); ok != (n >= 0 && n < api.MaxCells) {
			t.Errorf("Cell(%d)", n)
		}
		word.Parse(strconv.Itoa(n))
		word.Parse("#" + strconv.Itoa(n))
		word.Parse("?" + strconv.Itoa(n))
	}
	for range word.Cells(make([]api.Word, 1<<20)...) {
		t.Error("nil is no cell")
	}
}

func FuzzParse(f *testing.F) {
	for _, s := range []string{"", "0", "#0", "?4096", "#4096", "01", "9223372036854775807", "9223372036854775808", "\xff"} {
		f.Add(s)
	}
	f.Fuzz(func(t *testing.T, s string) {
		w, e := word.Parse(s)
		if e == api.OK && word.Text(w) != s || e != api.OK && (e != api.ErrForm || w != 0) {
			t.Errorf("Parse(%q) = %d, %d", s, w, e)
		}
	})
}
