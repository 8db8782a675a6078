package access_test

import (
	"fmt"
	"math"
	"slices"
	"strings"
	"testing"

	"mudlark/access"
	"mudlark/api"
	"mudlark/arena"
	"mudlark/place"
	"mudlark/word"
)

const last = api.Word(math.MaxUint64)

var (
	least = api.Config{Cells: 2, Muts: 1, Regs: 1, Globs: 0}
	some  = api.Config{Cells: 3, Muts: 2, Regs: 2, Globs: 2}
	most  = api.Config{Cells: 4096, Muts: 63, Regs: 64, Globs: 64}
)

func right() []api.Config {
	return []api.Config{least, some, most}
}

// wrong are configurations that aren't right: the empty one, and some with one number at fault.
func wrong() []api.Config {
	return []api.Config{
		{}, {Cells: 1, Muts: 1, Regs: 1}, {Cells: 4097, Muts: 1, Regs: 1}, {Cells: 2, Regs: 1}, {Cells: 2, Muts: 64, Regs: 1},
		{Cells: 2, Muts: 1}, {Cells: 2, Muts: 1, Regs: 65}, {Cells: 2, Muts: 1, Regs: 1, Globs: -1}, {Cells: 2, Muts: 1, Regs: 1, Globs: 65},
		{Cells: math.MaxInt, Muts: math.MaxInt, Regs: math.MaxInt, Globs: math.MaxInt},
		{Cells: math.MinInt, Muts: math.MinInt, Regs: math.MinInt, Globs: math.MinInt},
	}
}

// words are atoms, cells, and words that are neither, the first and the last of each.
func words() []api.Word {
	return []api.Word{
		0, 1, 2, 3, 4, 8, 8190, 8191, // the cell 4095
		8192, 8193, // neither: ?4096
		1<<32 - 1, 1 << 32, 1<<63 - 1, 1 << 63, 1<<63 + 1, last - 1, last,
	}
}

// kinds are the accesses that there are; noKinds are numbers that no access has.
func kinds() []int {
	return []int{api.ALoad, api.AStore, api.ACas, api.AAdd}
}

func noKinds() []int {
	return []int{0, -1, -2, -3, -4, -5, 5, 6, 255, 257, 1<<32 + 1, 1<<32 + 3, math.MinInt, math.MinInt + 1, math.MinInt + 4, math.MaxInt - 1, math.MaxInt}
}

// spots are the first and the last place of each sort of a right configuration, by their names.
func spots(c api.Config) map[string]int {
	firstIn := 5
	firstGlob := firstIn + c.Muts
	firstReg := firstGlob + c.Globs
	firstCell := firstReg + c.Muts*c.Regs
	l := map[string]int{
		"free": 0, "gate": 1, "dirty": 2, "next": 3, "serve": 4,
		"in 0": firstIn, fmt.Sprintf("in %d", c.Muts-1): firstGlob - 1,
		"reg 0 0": firstReg, fmt.Sprintf("reg %d %d", c.Muts-1, c.Regs-1): firstCell - 1,
		fmt.Sprintf("reg 0 %d", c.Regs-1): firstReg + c.Regs - 1, fmt.Sprintf("reg %d 0", c.Muts-1): firstCell - c.Regs,
		"car 0": firstCell, fmt.Sprintf("car %d", c.Cells-1): firstCell + 3*c.Cells - 3,
		"cdr 0": firstCell + 1, fmt.Sprintf("cdr %d", c.Cells-1): firstCell + 3*c.Cells - 2,
		"colour 0": firstCell + 2, fmt.Sprintf("colour %d", c.Cells-1): firstCell + 3*c.Cells - 1,
	}
	if c.Globs > 0 {
		l["glob 0"], l[fmt.Sprintf("glob %d", c.Globs-1)] = firstGlob, firstReg-1
	}
	return l
}

// beyond are places that a map of so many places doesn't have.
func beyond(size int) []int {
	return []int{
		math.MinInt, math.MinInt + 1, math.MinInt + size, -1 << 32, -size, -2, -1,
		size, size + 1, 2*size + 1, 1 << 32, 1<<32 + size, 1 << 62, math.MaxInt - size, math.MaxInt - 1, math.MaxInt,
	}
}

func sizeOf(c api.Config) int {
	return 5 + c.Muts + c.Globs + c.Muts*c.Regs + 3*c.Cells
}

// wordText is a word's text, as chapter 1 says it.
func wordText(w api.Word) string {
	switch {
	case w%2 == 0:
		return fmt.Sprint(uint64(w / 2))
	case w < 8192:
		return fmt.Sprintf("#%d", w/2)
	}
	return fmt.Sprintf("?%d", w/2)
}

// textOf is the text of a right access to a place of that name, as the chapter says it.
func textOf(x api.Access, name string) string {
	a, b, old := wordText(x.X), wordText(x.Y), wordText(x.Old)
	switch x.Kind {
	case api.ALoad:
		return fmt.Sprintf("load %s was %s", name, old)
	case api.AStore:
		return fmt.Sprintf("store %s %s was %s", name, a, old)
	case api.ACas:
		return fmt.Sprintf("cas %s %s %s was %s", name, a, b, old)
	}
	return fmt.Sprintf("add %s %s was %s", name, a, old)
}

// unused tells whether a number that the kind doesn't use is other than 0.
func unused(x api.Access) bool {
	return x.Kind == api.ALoad && x.X != 0 || x.Kind != api.ACas && x.Y != 0
}

// accesses are all of one kind at one place, with all words.
func accesses(kind, at int) []api.Access {
	var l []api.Access
	for _, x := range words() {
		for _, y := range words() {
			for _, old := range words() {
				l = append(l, api.Access{Kind: kind, At: at, X: x, Y: y, Old: old})
			}
		}
	}
	return l
}

func mustBe(t *testing.T, m place.Map, x api.Access, want string) {
	t.Helper()
	if got := access.Text(m, x); got != want {
		t.Fatalf("%+v on %+v: the text is %q, not %q", x, m.Config, got, want)
	}
	if got := access.Right(m, x); got != (want != "") {
		t.Fatalf("%+v on %+v: right tells %v", x, m.Config, got)
	}
	var rows []string
	if want != "" {
		rows = []string{want}
	}
	if got := access.Rows(m, x); !slices.Equal(got, rows) {
		t.Fatalf("%+v on %+v: rows are %q, not %q", x, m.Config, got, rows)
	}
}

func mustBeWrong(t *testing.T, m place.Map, x api.Access) {
	t.Helper()
	mustBe(t, m, x, "")
}

// The chapter's example.
func TestExample(t *testing.T) {
	mustBe(t, place.Map{Config: least}, api.Access{Kind: api.ALoad, At: api.AtFree, Old: 1}, "load free was #0")
}

// P6.1

func TestTextsByHand(t *testing.T) {
	m := place.Map{Config: some} // in 5 and 6, glob 7 and 8, reg 9 to 12, cells from 13 on
	for _, c := range []struct {
		x    api.Access
		want string
	}{
		{api.Access{Kind: api.ALoad}, "load free was 0"},
		{api.Access{Kind: api.ALoad, At: 12, Old: 8193}, "load reg 1 1 was ?4096"},
		{api.Access{Kind: api.ALoad, At: 21, Old: 4}, "load colour 2 was 2"},
		{api.Access{Kind: api.AStore, At: 13, X: 5, Old: 2}, "store car 0 #2 was 1"},
		{api.Access{Kind: api.AStore, At: 8}, "store glob 1 0 was 0"},
		{api.Access{Kind: api.AStore, At: 17, X: last, Old: last - 1}, "store cdr 1 ?9223372036854775807 was 9223372036854775807"},
		{api.Access{Kind: api.ACas, At: 1, X: 2, Y: 4, Old: 6}, "cas gate 1 2 was 3"},
		{api.Access{Kind: api.ACas, At: 2}, "cas dirty 0 0 was 0"},
		{api.Access{Kind: api.ACas, At: 0, X: 1, Y: 8191, Old: 1}, "cas free #0 #4095 was #0"},
		{api.Access{Kind: api.AAdd, At: 3, X: 2, Old: last}, "add next 1 was ?9223372036854775807"},
		{api.Access{Kind: api.AAdd, At: 6, X: 1, Old: 0}, "add in 1 #0 was 0"},
		{api.Access{Kind: api.AAdd, At: 4}, "add serve 0 was 0"},
	} {
		mustBe(t, m, c.x, c.want)
	}
}

// Each kind with all words, at one place: what it doesn't use is 0, or it isn't right.
func TestWords(t *testing.T) {
	m := place.Map{Config: some}
	for _, kind := range kinds() {
		for _, x := range accesses(kind, 14) {
			if unused(x) {
				mustBeWrong(t, m, x)
			} else {
				mustBe(t, m, x, textOf(x, "cdr 0"))
			}
		}
	}
}

// What is there ahead is used by every kind: it may be any word.
func TestAnyOldIsRight(t *testing.T) {
	m := place.Map{Config: least}
	for _, kind := range kinds() {
		for _, old := range words() {
			x := api.Access{Kind: kind, At: 7, Old: old}
			mustBe(t, m, x, textOf(x, "car 0"))
		}
	}
}

// Each number that a kind doesn't use, other than 0 by itself.
func TestUnused(t *testing.T) {
	m := place.Map{Config: least}
	for _, w := range words()[1:] {
		for at := range sizeOf(least) {
			for _, x := range []api.Access{
				{Kind: api.ALoad, At: at, X: w}, {Kind: api.ALoad, At: at, Y: w}, {Kind: api.ALoad, At: at, X: w, Y: w}, {Kind: api.ALoad, At: at, X: w, Y: -w},
				{Kind: api.AStore, At: at, Y: w}, {Kind: api.AStore, At: at, X: w, Y: w}, {Kind: api.AStore, At: at, X: w, Y: w, Old: w},
				{Kind: api.AAdd, At: at, Y: w}, {Kind: api.AAdd, At: at, X: w, Y: w}, {Kind: api.AAdd, At: at, X: -w, Y: w, Old: w},
			} {
				mustBeWrong(t, m, x)
			}
		}
	}
}

func TestNoKinds(t *testing.T) {
	m := place.Map{Config: some}
	for _, kind := range noKinds() {
		for at := range sizeOf(some) {
			for _, w := range words() {
				for _, x := range []api.Access{{Kind: kind, At: at, Old: w}, {Kind: kind, At: at, X: w}, {Kind: kind, At: at, Y: w}, {Kind: kind, At: at, X: w, Y: w, Old: w}} {
					mustBeWrong(t, m, x)
				}
			}
		}
	}
}

func TestSortsOfPlaces(t *testing.T) {
	for _, c := range right() {
		for name, at := range spots(c) {
			for _, x := range []api.Access{
				{Kind: api.ALoad, At: at, Old: 7}, {Kind: api.AStore, At: at, X: 5, Old: 6}, {Kind: api.ACas, At: at, X: 4, Y: 8193, Old: 4}, {Kind: api.AAdd, At: at, X: 2, Old: 1},
			} {
				mustBe(t, place.Map{Config: c}, x, textOf(x, name))
			}
		}
	}
}

func TestAllPlaces(t *testing.T) {
	for _, c := range []api.Config{least, some} {
		m := place.Map{Config: c}
		for at := range sizeOf(c) {
			for _, kind := range kinds() {
				x := api.Access{Kind: kind, At: at, Old: 3}
				mustBe(t, m, x, textOf(x, m.Name(at)))
			}
		}
	}
}

func TestPlacesBeyond(t *testing.T) {
	for _, c := range right() {
		for _, at := range beyond(sizeOf(c)) {
			for _, kind := range append(kinds(), noKinds()...) {
				mustBeWrong(t, place.Map{Config: c}, api.Access{Kind: kind, At: at})
				mustBeWrong(t, place.Map{Config: c}, api.Access{Kind: kind, At: at, X: 2, Y: 4, Old: 3})
			}
		}
	}
}

// A map that isn't right has no places.
func TestWrongMaps(t *testing.T) {
	for _, c := range wrong() {
		for _, at := range append(beyond(sizeOf(least)), 0, 1, 4, 5, 6, 7, 12) {
			for _, kind := range append(kinds(), noKinds()...) {
				mustBeWrong(t, place.Map{Config: c}, api.Access{Kind: kind, At: at})
				mustBeWrong(t, place.Map{Config: c}, api.Access{Kind: kind, At: at, X: 2, Y: 4, Old: 3})
			}
		}
	}
	mustBeWrong(t, place.Map{}, api.Access{})
}

// What isn't right in several ways isn't either.
func TestWrongInSeveralWays(t *testing.T) {
	for _, m := range []place.Map{{Config: least}, {}} {
		for _, x := range []api.Access{
			{Kind: api.ALoad, At: -1, X: 1}, {Kind: api.AStore, At: 13, Y: 1}, {Kind: 0, At: -1, X: 1, Y: 1}, {Kind: 5, At: 13, Y: last},
			{Kind: math.MinInt, At: math.MinInt, X: last, Y: last, Old: last}, {Kind: math.MaxInt, At: math.MaxInt, X: last, Y: last, Old: last},
		} {
			mustBeWrong(t, m, x)
		}
	}
}

func TestUnlikeTexts(t *testing.T) {
	seen := map[string]api.Access{}
	m := place.Map{Config: least}
	for at := range sizeOf(least) {
		for _, kind := range kinds() {
			for _, x := range accesses(kind, at) {
				if unused(x) {
					continue
				}
				s := access.Text(m, x)
				if other, ok := seen[s]; ok {
					t.Fatalf("%+v and %+v have the text %q", x, other, s)
				}
				seen[s] = x
			}
		}
	}
}

// All places of the greatest map: their texts are unlike, and in their order.
func TestGreatestMap(t *testing.T) {
	var l []api.Access
	for at := range sizeOf(most) {
		l = append(l, api.Access{Kind: api.ALoad, At: at, Old: 1})
	}
	rows := access.Rows(place.Map{Config: most}, l...)
	if len(rows) != sizeOf(most) {
		t.Fatalf("%d rows", len(rows))
	}
	for name, at := range spots(most) {
		if want := "load " + name + " was #0"; rows[at] != want {
			t.Errorf("at %d: %q, not %q", at, rows[at], want)
		}
	}
	slices.Sort(rows)
	if n := len(slices.Compact(rows)); n != sizeOf(most) {
		t.Errorf("%d unlike rows", n)
	}
}

func TestOneSpaceBetween(t *testing.T) {
	m := place.Map{Config: some}
	for _, kind := range kinds() {
		s := access.Text(m, api.Access{Kind: kind, At: 10, Old: 9})
		if s == "" || strings.Join(strings.Fields(s), " ") != s {
			t.Errorf("%q", s)
		}
	}
}

func TestRowsOfNone(t *testing.T) {
	for _, c := range append(right(), wrong()...) {
		m := place.Map{Config: c}
		if l := access.Rows(m); len(l) != 0 {
			t.Errorf("of none: %q", l)
		}
		if l := access.Rows(m, []api.Access{}...); len(l) != 0 {
			t.Errorf("of an empty list: %q", l)
		}
		if l := access.Rows(m, nil...); len(l) != 0 {
			t.Errorf("of nil: %q", l)
		}
		if l := access.Rows(m, api.Access{}, api.Access{}); len(l) != 0 {
			t.Errorf("of none that is right: %q", l)
		}
	}
}

// mixed are accesses of which some aren't right, and some are alike; mixedRows are their texts on the least map.
func mixed() []api.Access {
	return []api.Access{
		{}, {Kind: api.AStore, At: 7, X: 3, Old: 4}, {Kind: api.AStore, At: 7, X: 3, Y: 1, Old: 4}, {Kind: api.ALoad, At: 13},
		{Kind: api.ALoad, At: 12, Old: 4}, {Kind: api.ALoad, At: 0}, {Kind: 5, At: 1}, {Kind: api.ALoad, At: 0}, {Kind: api.ACas, At: 1, X: 0, Y: 2, Old: 2}, {Kind: api.AAdd, At: -1},
	}
}

func mixedRows() []string {
	return []string{"store car 0 #1 was 2", "load colour 1 was 2", "load free was 0", "load free was 0", "cas gate 0 1 was 1"}
}

func TestRows(t *testing.T) {
	m := place.Map{Config: least}
	l := mixed()
	if got := access.Rows(m, l...); !slices.Equal(got, mixedRows()) {
		t.Errorf("as a row: %q", got)
	}
	if got := access.Rows(m, l[0], l[1], l[2], l[3], l[4], l[5], l[6], l[7], l[8], l[9]); !slices.Equal(got, mixedRows()) {
		t.Errorf("one by one: %q", got)
	}
	if got := access.Rows(place.Map{}, l...); len(got) != 0 {
		t.Errorf("on a zero map: %q", got)
	}
	back := mixedRows()
	slices.Reverse(back)
	slices.Reverse(l)
	if got := access.Rows(m, l...); !slices.Equal(got, back) {
		t.Errorf("from behind: %q", got)
	}
}

// The rows are the texts of those that are right.
func TestRowsAreTexts(t *testing.T) {
	m := place.Map{Config: least}
	var l []api.Access
	for _, kind := range append(kinds(), noKinds()...) {
		for _, at := range append(beyond(sizeOf(least)), 0, 6, 12) {
			for _, w := range words() {
				l = append(l, api.Access{Kind: kind, At: at, Old: w}, api.Access{Kind: kind, At: at, X: w}, api.Access{Kind: kind, At: at, X: 1, Y: w, Old: 2})
			}
		}
	}
	var want []string
	for _, x := range l {
		if access.Right(m, x) {
			want = append(want, access.Text(m, x))
		}
	}
	if got := access.Rows(m, l...); !slices.Equal(got, want) || len(want) == 0 {
		t.Errorf("%d rows, not %d", len(got), len(want))
	}
}

// Nothing that is handed in is changed, what lies behind a list's length isn't read, and answers are new.
func TestRowsMemory(t *testing.T) {
	m := place.Map{Config: least}
	l := append(mixed(), api.Access{Kind: api.ALoad, At: 4}, api.Access{Kind: api.ALoad, At: 4})
	kept := slices.Clone(l)
	count := len(mixed())
	got := access.Rows(m, l[:count]...)
	if !slices.Equal(got, mixedRows()) {
		t.Errorf("%q", got)
	}
	if !slices.Equal(l, kept) {
		t.Errorf("the accesses were changed: %v", l)
	}
	for i := range got {
		got[i] = "other"
	}
	got = append(got, "more")
	clear(l)
	if len(got) != len(mixedRows())+1 {
		t.Errorf("%q", got)
	}
	if again := access.Rows(m, kept[:count]...); !slices.Equal(again, mixedRows()) {
		t.Errorf("asked again: %q", again)
	}
}

// What a step does on memory is right on its map, and its text tells what was there.
func TestWhatAnArenaDoes(t *testing.T) {
	m := place.Map{Config: least}
	a := arena.New(place.First(least)...)
	var l []api.Access
	for _, x := range []api.Access{
		{Kind: api.ALoad, At: m.Cdr(0)}, {Kind: api.AStore, At: m.Reg(0, 0), X: word.Atom(5)}, {Kind: api.ACas, At: api.AtFree, X: word.Cell(0), Y: word.Cell(1)}, {Kind: api.AAdd, At: api.AtNext, X: word.Atom(1)}, {Kind: api.AAdd, At: api.AtNext, X: word.Atom(1)},
	} {
		done, ok := a.Do(x)
		if !ok {
			t.Fatalf("%+v wasn't done", x)
		}
		l = append(l, done)
	}
	want := []string{"load cdr 0 was #1", "store reg 0 0 5 was 0", "cas free #0 #1 was #0", "add next 1 was 0", "add next 1 was 1"}
	if got := access.Rows(m, l...); !slices.Equal(got, want) {
		t.Errorf("%q", got)
	}
}

// P6.2

func TestChangesByHand(t *testing.T) {
	for _, c := range []struct {
		x    api.Access
		want bool
	}{
		{api.Access{Kind: api.ALoad}, false}, {api.Access{Kind: api.ALoad, Old: 3}, false}, {api.Access{Kind: api.ALoad, X: 1, Y: 2, Old: 3}, false},
		{api.Access{Kind: api.AStore}, false}, {api.Access{Kind: api.AStore, X: 1}, true}, {api.Access{Kind: api.AStore, Old: 1}, true},
		{api.Access{Kind: api.AStore, X: 1, Old: 1}, false}, {api.Access{Kind: api.AStore, X: last, Old: last - 1}, true}, {api.Access{Kind: api.AStore, X: last, Old: last}, false},
		{api.Access{Kind: api.ACas}, false}, {api.Access{Kind: api.ACas, X: 1, Y: 2, Old: 1}, true}, {api.Access{Kind: api.ACas, X: 1, Y: 1, Old: 1}, false},
		{api.Access{Kind: api.ACas, X: 1, Y: 2, Old: 2}, false}, {api.Access{Kind: api.ACas, X: 1, Y: 2, Old: 3}, false}, {api.Access{Kind: api.ACas, X: 1, Y: 1, Old: 2}, false},
		{api.Access{Kind: api.ACas, Y: 1}, true}, {api.Access{Kind: api.ACas, X: last, Old: last}, true},
		{api.Access{Kind: api.AAdd}, false}, {api.Access{Kind: api.AAdd, Old: 4}, false}, {api.Access{Kind: api.AAdd, X: 1}, true},
		{api.Access{Kind: api.AAdd, X: 4, Old: 4}, true}, {api.Access{Kind: api.AAdd, X: 1, Old: last}, true}, {api.Access{Kind: api.AAdd, X: last, Old: 1}, true},
		{api.Access{Kind: api.AAdd, X: last, Old: last}, true}, {api.Access{Kind: api.AAdd, X: 1 << 63, Old: 1 << 63}, true}, {api.Access{Kind: api.AAdd, X: 0, Old: last}, false},
	} {
		if got := access.Changes(c.x); got != c.want {
			t.Errorf("%+v: %v", c.x, got)
		}
	}
}

// What changes is told by doing it where Old was. It hangs neither on the place nor on what the kind doesn't use.
func TestChangesIsWhatIsDone(t *testing.T) {
	for _, kind := range kinds() {
		for _, x := range accesses(kind, 0) {
			a := arena.New(x.Old)
			if _, ok := a.Do(x); !ok {
				t.Fatalf("%+v wasn't done", x)
			}
			want := a.Load(0) != x.Old
			for _, at := range []int{0, 7, -1, math.MinInt, math.MaxInt} {
				x.At = at
				if got := access.Changes(x); got != want {
					t.Fatalf("%+v: %v", x, got)
				}
			}
		}
	}
}

func TestChangesOfNoKinds(t *testing.T) {
	for _, kind := range noKinds() {
		for _, x := range accesses(kind, 0) {
			if access.Changes(x) {
				t.Fatalf("%+v changes a word", x)
			}
		}
	}
}

// P1

func FuzzAccess(f *testing.F) {
	f.Add(2, 1, 1, 0, api.ALoad, 0, uint64(0), uint64(0), uint64(1))
	f.Add(3, 2, 2, 2, api.ACas, 21, uint64(1), uint64(2), uint64(1))
	f.Add(2, 1, 1, 0, api.AAdd, 13, uint64(math.MaxUint64), uint64(0), uint64(1))
	f.Add(math.MaxInt, math.MinInt, -1, 65, math.MaxInt, math.MinInt, uint64(7), uint64(1<<63), uint64(0))
	f.Fuzz(func(t *testing.T, cells, muts, regs, globs, kind, at int, x, y, old uint64) {
		m := place.Map{Config: api.Config{Cells: cells, Muts: muts, Regs: regs, Globs: globs}}
		a := api.Access{Kind: kind, At: at, X: api.Word(x), Y: api.Word(y), Old: api.Word(old)}
		want := ""
		if slices.Contains(kinds(), kind) && !unused(a) && m.Name(at) != "" {
			want = textOf(a, m.Name(at))
		}
		mustBe(t, m, a, want)
		memory := arena.New(a.Old)
		a.At = 0
		memory.Do(a)
		if got := access.Changes(a); got != (memory.Load(0) != a.Old) {
			t.Errorf("%+v: changes tells %v", a, got)
		}
	})
}
