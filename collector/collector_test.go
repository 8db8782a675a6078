package collector_test

import (
	"fmt"
	"math"
	"slices"
	"testing"

	"mudlark/api"
	"mudlark/arena"
	"mudlark/bar"
	"mudlark/collector"
	"mudlark/gate"
	"mudlark/hand"
	"mudlark/lisp"
	"mudlark/pass"
	"mudlark/place"
	"mudlark/pop"
	"mudlark/roots"
	"mudlark/sweep"
)

const last = api.Word(math.MaxUint64)

var (
	least = api.Config{Cells: 2, Muts: 1, Regs: 1, Globs: 0}
	three = api.Config{Cells: 3, Muts: 1, Regs: 1, Globs: 0}
	some  = api.Config{Cells: 5, Muts: 2, Regs: 2, Globs: 2}
	more  = api.Config{Cells: 9, Muts: 3, Regs: 1, Globs: 0}
	wide  = api.Config{Cells: 4, Muts: 63, Regs: 2, Globs: 3}
	most  = api.Config{Cells: 4096, Muts: 63, Regs: 64, Globs: 64}
)

func small() []api.Config {
	return []api.Config{least, three, some, more, {Cells: 12, Muts: 1, Regs: 4, Globs: 3}}
}

// lines are the lines that there are.
func lines() []int {
	return []int{1, 2, 3, 4, 5, 6, 7, 8, 9, 10, 11, 12, 13, 14, 15, 16, 20, 21, 22, 23, 24}
}

// noLines are lines that there aren't: those of mutators and the ends of int among them.
func noLines() []int {
	l := []int{
		0, 17, 18, 19, 25, 26, 30, 34, 37, 41, 80, 81, 90, 100, 101, 1 << 16, 256 + 1, 256 + 13, 256 + 20,
		1 << 32, 1<<32 + 1, 1<<32 + 3, 1<<32 + 14, 1<<32 + 16, 1<<32 + 20, 1<<32 + 24, math.MaxInt - 1, math.MaxInt,
		-1, -2, -3, -14, -16, -20, -24, -255, -236, 1 - 1<<32, math.MinInt, math.MinInt + 1, math.MinInt + 14, math.MinInt + 20,
	}
	for line := 25; line < 300; line++ {
		l = append(l, line, -line)
	}
	return l
}

// words are words of all sorts: cells of small maps and of great ones, nil, atoms, and words that are neither. As colours they are all three, and none; as ins they say each thing.
func words() []api.Word {
	return []api.Word{
		0, 1, 2, 3, 4, 5, 6, 7, 9, 11, 34, 8189, 8190, 8191, 8192, 8193, 8195, 1<<16 + 1, 1 << 32, 1<<32 + 1, 1<<32 + 3,
		1<<63 - 2, 1<<63 - 1, 1 << 63, 1<<63 + 1, last - 2, last - 1, last,
	}
}

// numbers are numbers of roots, cells and mutators that a configuration has, and such as it doesn't have. Some of them come round to small places, if they are multiplied by three.
func numbers(c api.Config) []int {
	l := []int{
		0, 1, c.Cells - 2, c.Cells - 1, c.Cells, c.Muts - 1, c.Muts, rootsOf(c) - 1, rootsOf(c), firstCell(c), sizeOf(c), 4096, 1 << 32, math.MaxInt/3 + 1, math.MaxInt - 1, math.MaxInt,
		-1, -2, -c.Cells, -sizeOf(c), -1 << 32, math.MinInt / 3, math.MinInt, math.MinInt + 1,
	}
	slices.Sort(l)
	return slices.Compact(l)
}

// busy are collectors with nothing, with something in each field, and with the ends of their types there.
func busy() []api.Col {
	least, most := math.MinInt, math.MaxInt
	return []api.Col{
		{},
		{Line: 18, J: 1, C: 2, M: 3, A: 4, P: 5, Found: true, Tail: 1, Cycles: 7},
		{Line: 2, J: -1, C: -2, M: -3, A: 7, P: 1, Tail: -6, Cycles: -7},
		{Line: least, J: least, C: least, M: least, A: last, P: last, Found: true, Tail: least, Cycles: least},
		{Line: most, J: most, C: most, M: most, A: last - 1, P: 8191, Tail: most, Cycles: most},
	}
}

// on is a collector on a line: all else is kept.
func on(x api.Col, line int) api.Col {
	x.Line = line
	return x
}

// at is a collector on a line, with a cell: all else is kept.
func at(x api.Col, line, c int) api.Col {
	x.Line, x.C = line, c
	return x
}

func cell(i int) api.Word {
	return api.Word(2*i + 1)
}

func isCell(w api.Word) bool {
	return w%2 == 1 && w/2 < 4096
}

// rootsOf and what follows are counts and places, as chapters 3 and 4 have them.
func rootsOf(c api.Config) int {
	return 1 + c.Globs + c.Muts*c.Regs
}

func firstCell(c api.Config) int {
	return 4 + c.Muts + rootsOf(c)
}

func sizeOf(c api.Config) int {
	return firstCell(c) + 3*c.Cells
}

func carAt(c api.Config, i int) int {
	return firstCell(c) + 3*i
}

func cdrAt(c api.Config, i int) int {
	return firstCell(c) + 3*i + 1
}

func colourAt(c api.Config, i int) int {
	return firstCell(c) + 3*i + 2
}

// hashed is a word that is like none of another number's, and neither nil nor a colour.
func hashed(i int) api.Word {
	return api.Word(i+1) * 0x9e3779b97f4a7c15
}

// mixed are the words of a memory, no two of which are alike: a word that is changed is seen.
func mixed(c api.Config) []api.Word {
	l := make([]api.Word, sizeOf(c))
	for at := range l {
		l[at] = hashed(at)
	}
	return l
}

// filled are the words of a memory, all of which are one.
func filled(c api.Config, w api.Word) []api.Word {
	l := make([]api.Word, sizeOf(c))
	for at := range l {
		l[at] = w
	}
	return l
}

// with are words of which one is another one.
func with(l []api.Word, at int, x api.Word) []api.Word {
	l = slices.Clone(l)
	l[at] = x
	return l
}

func from(t *testing.T, c api.Config, l ...api.Word) *hand.Hand {
	t.Helper()
	h, e := hand.From(c, l...)
	if h == nil || e != api.OK {
		t.Fatalf("From(%v) of %d words = %v, %d", c, len(l), h, e)
	}
	return h
}

// The accesses that steps do.
func loading(at int, old api.Word) api.Access {
	return api.Access{Kind: api.ALoad, At: at, Old: old}
}

func storing(at int, x, old api.Word) api.Access {
	return api.Access{Kind: api.AStore, At: at, X: x, Old: old}
}

func shading(at int, old api.Word) api.Access {
	return api.Access{Kind: api.ACas, At: at, X: 0, Y: 1, Old: old}
}

// stray is an access that no step does: what a step leaves of it is seen.
func stray() api.Access {
	return api.Access{Kind: 99, At: 98, X: 97, Y: 96, Old: 95}
}

// mustStep does a step, and holds its answer, the access and all words against what they must be.
func mustStep(t *testing.T, h *hand.Hand, x, want api.Col, was int, did api.Access, words []api.Word) {
	t.Helper()
	c := h.Config
	got, what := collector.Step(h, x)
	if got != want || what != was {
		t.Fatalf("%v: Step(%+v) = %+v, %d, not %+v, %d", c, x, got, what, want, was)
	}
	if h.Access != did {
		t.Fatalf("%v: behind %+v the access is %+v, not %+v", c, x, h.Access, did)
	}
	if got := h.All(); !slices.Equal(got, words) {
		t.Fatalf("%v: behind %+v all words are %v, not %v", c, x, got, words)
	}
	if h.Config != c {
		t.Fatalf("behind %+v the map is that of %v, not of %v", x, h.Config, c)
	}
}

// P19.1

func TestBegin(t *testing.T) {
	for _, r := range []struct {
		c    api.Config
		tail int
	}{
		{least, 1}, {three, 2}, {some, 4}, {wide, 3}, {most, 4095}, {api.Config{Cells: 100, Muts: 7, Regs: 8, Globs: 9}, 99},
		// Of what isn't right, too.
		{api.Config{}, -1}, {api.Config{Cells: 1, Muts: 1, Regs: 1}, 0}, {api.Config{Cells: 4097, Muts: 1, Regs: 1}, 4096}, {api.Config{Cells: 4}, 3}, {api.Config{Cells: 4, Muts: -1, Regs: 65, Globs: -9}, 3},
		{api.Config{Cells: 0, Muts: 1, Regs: 1}, -1}, {api.Config{Cells: -1, Muts: 1, Regs: 1}, -2}, {api.Config{Cells: -4096}, -4097}, {api.Config{Cells: 1 << 32}, 1<<32 - 1},
		{api.Config{Cells: math.MaxInt, Muts: math.MaxInt, Regs: math.MaxInt, Globs: math.MaxInt}, math.MaxInt - 1},
		{api.Config{Cells: math.MinInt + 1, Muts: math.MinInt, Regs: math.MinInt, Globs: math.MinInt}, math.MinInt},
	} {
		if got := collector.Begin(r.c); got != (api.Col{Line: 1, Tail: r.tail}) {
			t.Errorf("Begin(%v) = %+v", r.c, got)
		}
	}
	// No int is 1 less than the least one, so Tail is left open.
	got := collector.Begin(api.Config{Cells: math.MinInt, Muts: 1, Regs: 1})
	if want := (api.Col{Line: 1, Tail: got.Tail}); got != want {
		t.Errorf("of the least int Begin is %+v", got)
	}
}

func TestBeginOfAllCounts(t *testing.T) {
	for cells := -300; cells <= 5000; cells++ {
		for _, c := range []api.Config{{Cells: cells, Muts: 1, Regs: 1}, {Cells: cells, Muts: 63, Regs: 64, Globs: 64}, {Cells: cells}} {
			if got := collector.Begin(c); got != (api.Col{Line: 1, Tail: cells - 1}) {
				t.Fatalf("Begin(%v) = %+v", c, got)
			}
		}
	}
}

// row is what one step must be: where it leads, what it was, its access, and the word that is there then.
type row struct {
	to   api.Col
	what int
	did  api.Access
	is   api.Word
}

// mustGo goes step by step, and holds each one's answer, its access and all words behind it against what they must be.
func mustGo(t *testing.T, h *hand.Hand, x api.Col, rows ...row) api.Col {
	t.Helper()
	l := h.All()
	for _, r := range rows {
		l = with(l, r.did.At, r.is)
		mustStep(t, h, x, r.to, r.what, r.did, l)
		x = r.to
	}
	return x
}

// Two cells, nobody else: the first cycle's flip comes with both cells Black; nothing is appended.
func TestExample(t *testing.T) {
	h := from(t, least, place.First(least)...)
	x := func(line, c int, a api.Word, found bool) api.Col {
		return api.Col{Line: line, J: 2, C: c, A: a, Found: found, Tail: 1}
	}
	begin := collector.Begin(least)
	if begin != (api.Col{Line: 1, Tail: 1}) {
		t.Fatalf("it begins with %+v", begin)
	}
	flip := mustGo(t, h, begin,
		row{api.Col{Line: 2, P: 1, Tail: 1}, 0, loading(0, 1), 1},
		row{api.Col{Line: 1, J: 1, Tail: 1}, 0, shading(9, 0), 1},
		row{x(3, 0, 0, false), 0, loading(6, 0), 0},
		row{x(4, 0, 0, false), 0, storing(2, 0, 0), 0},
		row{x(5, 0, 0, false), 0, loading(9, 1), 1},
		row{x(7, 0, 0, false), 0, loading(7, 0), 0},
		row{x(8, 0, 3, false), 0, loading(8, 3), 3},
		row{x(9, 0, 3, false), 0, shading(12, 0), 1},
		row{x(4, 1, 0, true), 0, storing(9, 2, 1), 2},
		row{x(5, 1, 0, true), 0, loading(12, 1), 1},
		row{x(7, 1, 0, true), 0, loading(10, 0), 0},
		row{x(9, 1, 0, true), 0, loading(11, 0), 0},
		row{x(3, 2, 0, true), 0, storing(12, 2, 1), 2},
		row{x(4, 0, 0, false), 0, storing(2, 0, 0), 0},
		row{x(4, 1, 0, false), 0, loading(9, 2), 2},
		row{x(10, 2, 0, false), 0, loading(12, 2), 2},
		row{x(11, 2, 0, false), 0, loading(5, 0), 0},
		row{x(12, 2, 0, false), 0, storing(1, 1, 0), 1},
		row{x(13, 2, 0, false), 0, loading(5, 0), 0},
		row{x(14, 2, 0, false), 1, loading(2, 0), 0})
	if h.Arena.Load(9) != api.Black || h.Arena.Load(12) != api.Black {
		t.Fatalf("at the flip all words are %v", h.All())
	}
	mustGo(t, h, flip,
		row{x(20, 0, 0, false), 0, storing(1, 0, 1), 0},
		row{x(24, 0, 0, false), 0, loading(9, 2), 2},
		row{x(20, 1, 0, false), 0, storing(9, 0, 2), 0},
		row{x(24, 1, 0, false), 0, loading(12, 2), 2},
		row{api.Col{Line: 1, C: 2, Tail: 1, Cycles: 1}, 3, storing(12, 0, 2), 0})
	if got := h.All(); !slices.Equal(got, place.First(least)) {
		t.Errorf("at the end all words are %v", got)
	}
}

// By hand: the register has the cell 1, whose car is 0 and whose cdr is itself; the list is the cell 3, and 2 and 4 are nobody's.
func TestExampleOfFive(t *testing.T) {
	c := api.Config{Cells: 5, Muts: 1, Regs: 1}
	h := from(t, c, 7, 0, 5, 0, 0, 0, 3, 4, 6, 0, 1, 3, 1, 7, 7, 0, 8, 0, 2, 9, 9, 0)
	x := func(line, c int, a api.Word, found bool) api.Col {
		return api.Col{Line: line, J: 2, C: c, A: a, Found: found, Tail: 3}
	}
	begin := api.Col{Line: 1, Tail: 3}
	over := mustGo(t, h, begin,
		row{api.Col{Line: 2, P: 7, Tail: 3}, 0, loading(0, 7), 7},
		row{api.Col{Line: 1, J: 1, Tail: 3}, 0, shading(18, 2), 2},
		row{api.Col{Line: 2, J: 1, P: 3, Tail: 3}, 0, loading(6, 3), 3},
		row{x(3, 0, 0, false), 0, shading(12, 1), 1},
		row{x(4, 0, 0, false), 0, storing(2, 0, 5), 0},
		row{x(4, 1, 0, false), 0, loading(9, 0), 0},
		row{x(5, 1, 0, false), 0, loading(12, 1), 1},
		row{x(6, 1, 1, false), 0, loading(10, 1), 1},
		row{x(7, 1, 1, false), 0, shading(9, 0), 1},
		row{x(8, 1, 3, false), 0, loading(11, 3), 3},
		row{x(9, 1, 3, false), 0, shading(12, 1), 1},
		row{x(4, 2, 0, true), 0, storing(12, 2, 1), 2},
		row{x(4, 3, 0, true), 0, loading(15, 0), 0},
		row{x(4, 4, 0, true), 0, loading(18, 2), 2},
		row{x(3, 5, 0, true), 0, loading(21, 0), 0},
		row{x(4, 0, 0, false), 0, storing(2, 0, 0), 0},
		row{x(5, 0, 0, false), 0, loading(9, 1), 1},
		row{x(7, 0, 4, false), 0, loading(7, 4), 4},
		row{x(9, 0, 6, false), 0, loading(8, 6), 6},
		row{x(4, 1, 0, true), 0, storing(9, 2, 1), 2},
		row{x(4, 2, 0, true), 0, loading(12, 2), 2},
		row{x(4, 3, 0, true), 0, loading(15, 0), 0},
		row{x(4, 4, 0, true), 0, loading(18, 2), 2},
		row{x(3, 5, 0, true), 0, loading(21, 0), 0},
		row{x(4, 0, 0, false), 0, storing(2, 0, 0), 0},
		row{x(4, 1, 0, false), 0, loading(9, 2), 2},
		row{x(4, 2, 0, false), 0, loading(12, 2), 2},
		row{x(4, 3, 0, false), 0, loading(15, 0), 0},
		row{x(4, 4, 0, false), 0, loading(18, 2), 2},
		row{x(10, 5, 0, false), 0, loading(21, 0), 0},
		row{x(11, 5, 0, false), 0, loading(5, 0), 0},
		row{x(12, 5, 0, false), 0, storing(1, 1, 0), 1},
		row{x(13, 5, 0, false), 0, loading(5, 0), 0},
		row{x(14, 5, 0, false), 1, loading(2, 0), 0},
		row{x(20, 0, 0, false), 0, storing(1, 0, 1), 0},
		row{x(24, 0, 0, false), 0, loading(9, 2), 2},
		row{x(20, 1, 0, false), 0, storing(9, 0, 2), 0},
		row{x(24, 1, 0, false), 0, loading(12, 2), 2},
		row{x(20, 2, 0, false), 0, storing(12, 0, 2), 0},
		row{x(21, 2, 0, false), 0, loading(15, 0), 0},
		row{x(22, 2, 0, false), 0, storing(13, 0, 7), 0},
		row{x(23, 2, 0, false), 0, storing(14, 0, 7), 0},
		row{api.Col{Line: 20, J: 2, C: 3, Tail: 2}, 2, storing(17, 5, 0), 5},
		row{api.Col{Line: 24, J: 2, C: 3, Tail: 2}, 0, loading(18, 2), 2},
		row{api.Col{Line: 20, J: 2, C: 4, Tail: 2}, 0, storing(18, 0, 2), 0},
		row{api.Col{Line: 21, J: 2, C: 4, Tail: 2}, 0, loading(21, 0), 0},
		row{api.Col{Line: 22, J: 2, C: 4, Tail: 2}, 0, storing(19, 0, 9), 0},
		row{api.Col{Line: 23, J: 2, C: 4, Tail: 2}, 0, storing(20, 0, 9), 0},
		row{api.Col{Line: 1, C: 5, Tail: 4, Cycles: 1}, 5, storing(14, 9, 0), 9})
	if got := h.All(); !slices.Equal(got, []api.Word{7, 0, 0, 0, 0, 0, 3, 4, 6, 0, 1, 3, 0, 0, 9, 0, 8, 5, 0, 0, 0, 0}) {
		t.Errorf("at the end all words are %v", got)
	}
	if l, ok := pop.List(c, h.All()...); !ok || !slices.Equal(l, []int{3, 2, 4}) || over.Cycles != 1 {
		t.Errorf("the list is %v, %v", l, ok)
	}
}

// By hand: the mutator comes in and waits at the collector's lines 10 to 13, and soils what was marked: the flip doesn't come till it is out, and nothing was soiled.
func TestExampleWithAMutator(t *testing.T) {
	h := from(t, least, 1, 0, 0, 0, 0, 0, 0, 0, 3, 2, 0, 0, 2)
	x := func(line int, a api.Word) api.Col {
		return api.Col{Line: line, J: 2, C: 2, A: a, Tail: 1, Cycles: 6}
	}
	pass := []row{
		{at(x(4, 0), 4, 0), 0, storing(2, 0, 1), 0},
		{at(x(4, 0), 4, 1), 0, loading(9, 2), 2},
		{x(10, 0), 0, loading(12, 2), 2},
	}
	h.Arena.Store(2, 1)
	mustGo(t, h, x(3, 0), pass...)
	h.Arena.Store(5, 1)
	mustGo(t, h, x(10, 0), row{x(16, 1), 0, loading(5, 1), 1}, row{x(16, 1), 0, loading(5, 1), 1})
	h.Arena.Store(5, 3)
	mustGo(t, h, x(16, 1), row{x(16, 3), 0, loading(5, 3), 3}, row{x(16, 3), 0, loading(5, 3), 3})
	h.Arena.Store(5, 6)
	mustGo(t, h, x(16, 3),
		row{x(11, 0), 0, loading(5, 6), 6},
		row{x(12, 0), 0, storing(1, 1, 0), 1},
		row{x(12, 0), 0, loading(5, 6), 6})
	h.Arena.Store(2, 1)
	h.Arena.Store(5, 8)
	mustGo(t, h, x(12, 0),
		row{x(13, 0), 0, loading(5, 8), 8},
		row{x(15, 0), 0, loading(2, 1), 1},
		row{x(3, 0), 0, storing(1, 0, 1), 0})
	mustGo(t, h, x(3, 0), pass...)
	mustGo(t, h, x(10, 0),
		row{x(11, 0), 0, loading(5, 8), 8},
		row{x(12, 0), 0, storing(1, 1, 0), 1},
		row{x(13, 0), 0, loading(5, 8), 8},
		row{x(14, 0), 1, loading(2, 0), 0},
		row{at(x(20, 0), 20, 0), 0, storing(1, 0, 1), 0})
}

// What the steps of lines are, by the names that api has for them: the last line of a cycle is one on the last cell.
func TestWhatAStepWas(t *testing.T) {
	const colour = 9 // of the cell 0; that of the cell 1 is 12
	for _, r := range []struct {
		x    api.Col
		at   int
		is   api.Word
		line int
		what int
	}{
		{api.Col{Line: 1}, 0, 1, 2, api.ColNone}, {api.Col{Line: 1}, 0, 2, 1, api.ColNone}, {api.Col{Line: 1, J: 1}, 6, 2, 3, api.ColNone},
		{api.Col{Line: 2, P: 1}, colour, 0, 1, api.ColNone}, {api.Col{Line: 2, J: 1, P: 1}, colour, 0, 3, api.ColNone},
		{api.Col{Line: 3}, 2, 1, 4, api.ColNone},
		{api.Col{Line: 4}, colour, 1, 5, api.ColNone}, {api.Col{Line: 4}, colour, 2, 4, api.ColNone}, {api.Col{Line: 4, C: 1}, 12, 2, 10, api.ColNone}, {api.Col{Line: 4, C: 1, Found: true}, 12, 2, 3, api.ColNone},
		{api.Col{Line: 5}, 7, 1, 6, api.ColNone}, {api.Col{Line: 5}, 7, 2, 7, api.ColNone}, {api.Col{Line: 6, A: 1}, colour, 0, 7, api.ColNone},
		{api.Col{Line: 7}, 8, 1, 8, api.ColNone}, {api.Col{Line: 7}, 8, 2, 9, api.ColNone}, {api.Col{Line: 8, A: 1}, colour, 0, 9, api.ColNone},
		{api.Col{Line: 9}, colour, 1, 4, api.ColNone}, {api.Col{Line: 9, C: 1}, 12, 1, 3, api.ColNone},
		{api.Col{Line: 10}, 5, 0, 11, api.ColNone}, {api.Col{Line: 10}, 5, 3, 16, api.ColNone}, {api.Col{Line: 16}, 5, 2, 11, api.ColNone}, {api.Col{Line: 16}, 5, 0, 16, api.ColNone},
		{api.Col{Line: 11}, 1, 0, 12, api.ColNone}, {api.Col{Line: 12}, 5, 0, 13, api.ColNone}, {api.Col{Line: 12}, 5, 2, 12, api.ColNone},
		{api.Col{Line: 13}, 2, 0, 14, api.ColFlip}, {api.Col{Line: 13}, 2, 1, 15, api.ColNone}, {api.Col{Line: 13}, 2, last, 15, api.ColNone},
		{api.Col{Line: 14}, 1, 1, 20, api.ColNone}, {api.Col{Line: 15}, 1, 1, 3, api.ColNone},
		{api.Col{Line: 20}, colour, 0, 21, api.ColNone}, {api.Col{Line: 20}, colour, 1, 20, api.ColNone}, {api.Col{Line: 20}, colour, 2, 24, api.ColNone},
		{api.Col{Line: 20, C: 1}, 12, 0, 21, api.ColNone}, {api.Col{Line: 20, C: 1}, 12, 1, 1, api.ColCycle}, {api.Col{Line: 20, C: 1}, 12, 2, 24, api.ColNone},
		{api.Col{Line: 21, C: 1}, 10, 5, 22, api.ColNone}, {api.Col{Line: 22, C: 1}, 11, 5, 23, api.ColNone},
		{api.Col{Line: 23, C: 0, Tail: 1}, 11, 0, 20, api.ColAppend}, {api.Col{Line: 23, C: 1}, 8, 0, 1, api.ColAppend + api.ColCycle},
		{api.Col{Line: 24}, colour, 2, 20, api.ColNone}, {api.Col{Line: 24, C: 1}, 12, 2, 1, api.ColCycle},
	} {
		for _, w := range []api.Word{0, 1, 2, 3} {
			h := from(t, least, with(filled(least, w), r.at, r.is)...)
			if next, what := collector.Step(h, r.x); next.Line != r.line || what != r.what || h.Access.At != r.at || h.Access.Kind == 0 {
				t.Errorf("%+v, among %d: the line is %d, it was %d, and the access %+v", r, w, next.Line, what, h.Access)
			}
		}
	}
}

// ofItsLayer is what the layer makes of a line that has it, as the chapter tells: how far the collector is then, and what the step was; false: there is no such line.
func ofItsLayer(h *hand.Hand, x api.Col) (next api.Col, what int, ok bool) {
	switch {
	case x.Line == 1 || x.Line == 2:
		next, ok = roots.Step(h, x)
	case x.Line >= 3 && x.Line <= 9:
		next, ok = pass.Step(h, x)
	case x.Line >= 10 && x.Line <= 16:
		var flip bool
		if next, flip, ok = bar.Step(h, x); flip {
			what = 1
		}
	case x.Line >= 20 && x.Line <= 24:
		next, what, ok = sweep.Step(h, x)
	}
	return next, what, ok
}

// mustBeOfItsLayer does a step, and holds it against what the layer's own Step makes of it on a hand of its own.
func mustBeOfItsLayer(t *testing.T, c api.Config, l []api.Word, x api.Col) {
	t.Helper()
	own, h := from(t, c, l...), from(t, c, l...)
	h.Access = stray()
	want, what, ok := ofItsLayer(own, x)
	if !ok {
		t.Fatalf("no layer has the line of %+v", x)
	}
	mustStep(t, h, x, want, what, own.Access, own.All())
}

// memories are the words of memories of all sorts.
func memories(c api.Config) [][]api.Word {
	l := [][]api.Word{place.First(c), mixed(c)}
	for _, w := range words() {
		l = append(l, filled(c, w))
	}
	for k := range 8 {
		m := make([]api.Word, sizeOf(c))
		for at := range m {
			m[at] = words()[uint64(hashed(at*8+k))%uint64(len(words()))]
		}
		l = append(l, m)
	}
	return l
}

// Every line beside the layer's own step: with all that a collector may have beside it, over words of all sorts.
func TestStepsAreThoseOfTheLayers(t *testing.T) {
	for _, c := range []api.Config{least, some, wide} {
		for _, l := range memories(c) {
			for _, line := range lines() {
				for k, n := range numbers(c) {
					all := numbers(c)
					b := busy()[k%len(busy())]
					mustBeOfItsLayer(t, c, l, on(b, line))
					b.J, b.C, b.M, b.Tail = n, n, n, all[(k+5)%len(all)]
					mustBeOfItsLayer(t, c, l, on(b, line))
					b.A, b.P, b.Found = words()[(k+line)%len(words())], words()[(k+2*line)%len(words())], k%2 == 0
					b.J, b.M, b.Tail = all[(k+7)%len(all)], all[(k+11)%len(all)], c.Cells-1
					mustBeOfItsLayer(t, c, l, on(b, line))
				}
			}
		}
	}
}

// Every line with words of all sorts in hand, among cells that there are.
func TestStepsWithWordsInHand(t *testing.T) {
	for _, l := range memories(some) {
		for _, line := range lines() {
			for _, w := range words() {
				for i := range some.Cells {
					mustBeOfItsLayer(t, some, l, api.Col{Line: line, J: i, C: i, M: i % 2, A: w, P: w, Found: i%2 == 0, Tail: 4 - i, Cycles: i})
				}
			}
		}
	}
}

// Many cells, roots and mutators: the first ones, the last ones, and what there isn't.
func TestStepsOfManyCells(t *testing.T) {
	for k, l := range [][]api.Word{place.First(most), mixed(most), filled(most, 1)} {
		for _, line := range lines() {
			for _, n := range []int{0, 62, 63, 4095, 4096, rootsOf(most) - 1} {
				mustBeOfItsLayer(t, most, l, api.Col{Line: line, J: n, C: n, M: n, A: cell(n), P: cell(n), Found: k == 1, Tail: 4095 - n})
			}
		}
	}
}

// On lines that there aren't nothing is done, and the access of an earlier step is gone.
func TestOtherLines(t *testing.T) {
	for _, l := range [][]api.Word{mixed(some), filled(some, 0), filled(some, 1), filled(some, 2), place.First(some)} {
		h := from(t, some, l...)
		for _, line := range noLines() {
			for _, b := range busy() {
				for _, n := range []int{b.C, 0, 1, 4} {
					x := b
					x.Line, x.J, x.C, x.M = line, n, n, n
					h.Access = stray()
					mustStep(t, h, x, x, 0, api.Access{}, l)
					h.Load(0)
					mustStep(t, h, x, x, 0, api.Access{}, l)
					mustStep(t, h, x, x, 0, api.Access{}, l)
				}
			}
		}
	}
}

// A line whose place isn't there does no access either, and that of the step ahead is gone.
func TestAccessIsThatOfTheStep(t *testing.T) {
	l := filled(some, 1)
	h := from(t, some, l...)
	for _, x := range []api.Col{
		{Line: 1, J: 7}, {Line: 1, J: -1}, {Line: 2, P: 0}, {Line: 2, P: 11}, {Line: 4, C: 5}, {Line: 5, C: -1}, {Line: 6, A: 8191}, {Line: 7, C: 5}, {Line: 8, A: 2}, {Line: 9, C: 5},
		{Line: 10, M: 2}, {Line: 16, M: -1}, {Line: 12, M: 63}, {Line: 20, C: 5}, {Line: 21, C: 5}, {Line: 22, C: -1}, {Line: 23, Tail: 5}, {Line: 24, C: -1},
	} {
		h.Load(3)
		if _, what := collector.Step(h, x); h.Access != (api.Access{}) || what == api.ColFlip {
			t.Errorf("behind %+v the access is %+v", x, h.Access)
		}
		if got := h.All(); !slices.Equal(got, l) {
			t.Fatalf("behind %+v all words are %v", x, got)
		}
	}
}

func TestNilHand(t *testing.T) {
	for _, line := range append(noLines(), lines()...) {
		for _, b := range busy() {
			for _, n := range append(numbers(some), b.C) {
				x := b
				x.Line, x.J, x.C, x.M = line, n, n, n
				if got, what := collector.Step(nil, x); got != x || what != 0 {
					t.Fatalf("Step(nil, %+v) = %+v, %d", x, got, what)
				}
			}
		}
	}
}

// A hand that has no places can do no access.
func TestHandsWithoutPlaces(t *testing.T) {
	low := api.Config{Cells: math.MinInt, Muts: math.MinInt, Regs: math.MinInt, Globs: math.MinInt}
	for name, h := range map[string]*hand.Hand{
		"a zero hand":       {},
		"no arena":          {Map: place.Map{Config: some}},
		"no words":          {Arena: arena.New(), Map: place.Map{Config: some}},
		"the least numbers": {Arena: arena.New(), Map: place.Map{Config: low}},
		"too many cells":    {Arena: arena.New(), Map: place.Map{Config: api.Config{Cells: math.MaxInt, Muts: 1, Regs: 1}}},
	} {
		own := *h
		for _, b := range busy() {
			for _, n := range append(numbers(some), b.C) {
				for _, line := range append(noLines(), lines()...) {
					x := b
					x.Line, x.J, x.C, x.M = line, n, n, n
					want, what, ok := ofItsLayer(&own, x)
					if !ok {
						want, what = x, 0
					}
					h.Access = stray()
					if got, was := collector.Step(h, x); got != want || was != what || h.Access != (api.Access{}) {
						t.Fatalf("%s: Step(%+v) = %+v, %d, not %+v, %d, and the access %+v", name, x, got, was, want, what, h.Access)
					}
				}
			}
		}
	}
}

// P19.2

// mustBeAt holds the answers of Marks and Swept on a line against what they must be, whatever else the collector has.
func mustBeAt(t *testing.T, line, c int, marks bool, swept int) {
	t.Helper()
	for _, b := range busy() {
		x := at(b, line, c)
		if got := collector.Marks(x); got != marks {
			t.Fatalf("Marks(%+v) = %v", x, got)
		}
		if got := collector.Swept(x); got != swept {
			t.Fatalf("Swept(%+v) = %d, not %d", x, got, swept)
		}
	}
}

func TestPhasesByHand(t *testing.T) {
	for line, marks := range []bool{
		false, true, true, true, true, true, true, true, true, true, true, true, true, true, false, true, true, false, false, false,
	} {
		swept := -1
		if line == 14 {
			swept = 0
		}
		mustBeAt(t, line, 3, marks, swept)
	}
	for line := 20; line <= 24; line++ {
		for _, c := range []int{0, 1, 3, 4095, 4096, -1, -2, 1 << 32, math.MinInt, math.MaxInt} {
			mustBeAt(t, line, c, false, c)
		}
	}
	for _, line := range []int{-1, -14, -20, 25, 80, 90} {
		mustBeAt(t, line, 3, false, -1)
	}
}

func TestPhases(t *testing.T) {
	for line := -300; line <= 600; line++ {
		mustBeOnALine(t, line)
	}
	for _, line := range noLines() {
		mustBeOnALine(t, line)
	}
}

// mustBeOnALine holds the answers on a line against the promise's words, with several cells.
func mustBeOnALine(t *testing.T, line int) {
	t.Helper()
	for _, c := range []int{math.MinInt, -6, -1, 0, 1, 2, 6, 14, 20, 24, 4095, 5000, math.MaxInt} {
		marks := line >= 1 && line <= 13 || line == 15 || line == 16
		switch {
		case line >= 20 && line <= 24:
			mustBeAt(t, line, c, false, c)
		case line == 14:
			mustBeAt(t, line, c, false, 0)
		default:
			mustBeAt(t, line, c, marks, -1)
		}
	}
}

// P19.3

// bound is how many steps a cycle takes at most.
func bound(c api.Config) int {
	return (c.Cells+1)*(6*c.Cells+1) + 3*rootsOf(c) + 5*c.Cells + 2*c.Muts + 10
}

// rule tells words by their numbers.
type rule func(i int) api.Word

func always(w api.Word) rule {
	return func(int) api.Word { return w }
}

// around is a rule that tells words in turn.
func around(l ...api.Word) rule {
	return func(i int) api.Word { return l[i%len(l)] }
}

// drawn is a rule that tells some of the words, in no plain order; which ones hangs on a seed.
func drawn(seed int, l ...api.Word) rule {
	return func(i int) api.Word {
		w := uint64(hashed(seed*1009 + i))
		return l[(w^w>>29)*0xbf58476d1ce4e5b9>>33%uint64(len(l))]
	}
}

// heap is a memory with a free list, all of whose mutators are idle, whatever they were and whatever else is there: its other words are told by rules.
func heap(c api.Config, list []int, root, car, cdr, colour rule) []api.Word {
	l := mixed(c)
	for i := range c.Muts {
		l[5+i] &^= 3
	}
	for j := range rootsOf(c) - 1 {
		l[5+c.Muts+j] = root(j)
	}
	for i := range c.Cells {
		l[carAt(c, i)], l[cdrAt(c, i)], l[colourAt(c, i)] = car(i), cdr(i), colour(i)
	}
	at := 0
	for _, i := range list {
		l[at] = cell(i)
		at = cdrAt(c, i)
	}
	l[at] = 0
	greyOut(c, l)
	return l
}

// greyOut makes Black cells Grey which have a White one: no cycle begins with such.
func greyOut(c api.Config, l []api.Word) {
	white := func(w api.Word) bool {
		return isCell(w) && int(w/2) < c.Cells && l[colourAt(c, int(w/2))] == api.White
	}
	for i := range c.Cells {
		if l[colourAt(c, i)] == api.Black && (white(l[carAt(c, i)]) || white(l[cdrAt(c, i)])) {
			l[colourAt(c, i)] = api.Grey
		}
	}
}

// within are the cells that words have, and that those have, by cars and cdrs.
func within(c api.Config, l []api.Word, words ...api.Word) []bool {
	met := make([]bool, c.Cells)
	for k := 0; k < len(words); k++ {
		w := words[k]
		if i := int(w / 2); isCell(w) && i < c.Cells && !met[i] {
			met[i] = true
			words = append(words, l[carAt(c, i)], l[cdrAt(c, i)])
		}
	}
	return met
}

// rootWords are the words of the roots.
func rootWords(c api.Config, l []api.Word) []api.Word {
	return append([]api.Word{l[0]}, l[5+c.Muts:firstCell(c)]...)
}

// keptBy are the cells that a cycle keeps: those that roots, and cells that aren't White at first, lead to.
func keptBy(c api.Config, l []api.Word) []bool {
	words := rootWords(c, l)
	for i := range c.Cells {
		if l[colourAt(c, i)] != api.White {
			words = append(words, cell(i))
		}
	}
	return within(c, l, words...)
}

// cycle is what a whole cycle was: how many steps and flips, all words behind the flip, and the cells that were appended.
type cycle struct {
	steps, flips int
	marked       []api.Word
	put          []int
}

// goRound goes to the end of the cycle, and looks at each step, whether it is one of the phase.
func goRound(t *testing.T, h *hand.Hand, x api.Col) (api.Col, cycle) {
	t.Helper()
	var r cycle
	for r.steps < bound(h.Config) {
		flipped := r.flips > 0
		if collector.Marks(x) == flipped || (collector.Swept(x) < 0) == flipped {
			t.Fatalf("%v: behind %d flips %+v marks: %v, and has swept %d", h.Config, r.flips, x, collector.Marks(x), collector.Swept(x))
		}
		next, what := collector.Step(h, x)
		r.steps++
		switch what {
		case api.ColFlip:
			r.flips++
			r.marked = h.All()
		case api.ColAppend, api.ColAppend + api.ColCycle:
			r.put = append(r.put, x.C)
		}
		over := what >= api.ColCycle
		if over != (next.Cycles > x.Cycles) {
			t.Fatalf("%v: behind %+v it is %+v, and what it was %d", h.Config, x, next, what)
		}
		if x = next; over {
			return x, r
		}
	}
	t.Fatalf("%v: behind %d steps the cycle isn't over: %+v", h.Config, r.steps, x)
	return x, r
}

// mustBeMarked looks at the words behind the flip: what is reached is Black, what is kept, too, and nothing is Grey; all else is as it was.
func mustBeMarked(t *testing.T, c api.Config, ahead, l []api.Word) {
	t.Helper()
	for i, reached := range within(c, ahead, rootWords(c, ahead)...) {
		if colour := l[colourAt(c, i)]; colour == api.Grey || reached && colour != api.Black {
			t.Fatalf("%v: behind the flip of %v the colour of %d is %d", c, ahead, i, colour)
		}
	}
	want := slices.Clone(ahead)
	want[api.AtGate], want[api.AtDirty] = api.GateClosed, 0
	for i, kept := range keptBy(c, ahead) {
		if kept {
			want[colourAt(c, i)] = api.Black
		}
	}
	if !slices.Equal(l, want) {
		t.Fatalf("%v: behind the flip all words are %v, not %v", c, l, want)
	}
}

// mustBeSwept looks at the words behind the sweep: what wasn't Black at the flip is on the free list, behind those that were there, rising; all else lies where it lay.
func mustBeSwept(t *testing.T, c api.Config, ahead []api.Word, list []int, r cycle, l []api.Word) {
	t.Helper()
	want := slices.Clone(ahead)
	want[api.AtGate], want[api.AtDirty] = api.GateOpen, 0
	all := slices.Clone(list)
	for i := range c.Cells {
		want[colourAt(c, i)] = api.White
		if r.marked[colourAt(c, i)] != api.Black {
			want[carAt(c, i)], want[cdrAt(c, i)], want[cdrAt(c, all[len(all)-1])] = 0, 0, cell(i)
			all = append(all, i)
		}
	}
	got, ok := pop.List(c, l...)
	if !ok || !slices.Equal(got, all) || !slices.Equal(r.put, all[len(list):]) {
		t.Fatalf("%v: behind the sweep of %v the list is %v, %v, not %v, and %v were appended", c, ahead, got, ok, all, r.put)
	}
	if !slices.Equal(l, want) {
		t.Fatalf("%v: behind the sweep of %v all words are %v, not %v", c, ahead, l, want)
	}
	free := within(c, l, l[0])
	for i, kept := range keptBy(c, ahead) {
		if !kept && !free[i] {
			t.Fatalf("%v: behind the sweep of %v the cell %d isn't on the list", c, ahead, i)
		}
	}
}

// mustCycle goes once round, and holds the cycle against the promise.
func mustCycle(t *testing.T, h *hand.Hand, x api.Col) (api.Col, cycle) {
	t.Helper()
	c, ahead := h.Config, h.All()
	list, ok := pop.List(c, ahead...)
	if !ok || x.Line != 1 || x.Tail != list[len(list)-1] {
		t.Fatalf("%v: %+v can't begin, with the list %v, %v of %v", c, x, list, ok, ahead)
	}
	end, r := goRound(t, h, x)
	if r.flips != 1 {
		t.Fatalf("%v: %d flips came in a cycle of %v", c, r.flips, ahead)
	}
	mustBeMarked(t, c, ahead, r.marked)
	mustBeSwept(t, c, ahead, list, r, h.All())
	all := slices.Concat(list, r.put)
	if want := (api.Col{Line: 1, C: c.Cells, Tail: all[len(all)-1], Cycles: x.Cycles + 1}); end != want {
		t.Fatalf("%v: behind the cycle of %v it is %+v, not %+v", c, ahead, end, want)
	}
	return end, r
}

// mustGoRound goes once round a memory whose free list ends wherever it does.
func mustGoRound(t *testing.T, c api.Config, l []api.Word, list []int) cycle {
	t.Helper()
	x := collector.Begin(c)
	x.Tail = list[len(list)-1]
	_, r := mustCycle(t, from(t, c, l...), x)
	return r
}

// lists are free lists of a configuration: of one cell, of some, and of all, rising, falling, and in other orders.
func lists(c api.Config) [][]int {
	up := make([]int, c.Cells)
	for i := range up {
		up[i] = i
	}
	down := slices.Clone(up)
	slices.Reverse(down)
	n := c.Cells
	turned := append(slices.Clone(up[n/2:]), up[:n/2]...)
	return [][]int{{0}, {n - 1}, {n / 2}, {n - 1, 0}, {0, n - 1}, up[:n-1], up[1:], down[:n/2], turned[:n-1], turned, up, down}
}

// At first all cells are on the free list: nothing is appended, as many cycles as there are; how many steps each one takes is told by hand.
func TestCyclesAtFirst(t *testing.T) {
	for _, r := range []struct {
		c     api.Config
		steps int
	}{
		{least, 25}, {three, 33}, {some, 56}, {wide, 293}, {api.Config{Cells: 10, Muts: 1, Regs: 1}, 89},
		{api.Config{Cells: 4096, Muts: 1, Regs: 1}, 32777}, {most, 36996},
	} {
		h := from(t, r.c, place.First(r.c)...)
		x := collector.Begin(r.c)
		for k := range 3 {
			next, was := mustCycle(t, h, x)
			if was.steps != r.steps || len(was.put) != 0 || next.Cycles != k+1 || next.Tail != r.c.Cells-1 {
				t.Fatalf("%v: the cycle %d took %d steps, %v were appended, and it is %+v", r.c, k, was.steps, was.put, next)
			}
			x = next
		}
		if got := h.All(); !slices.Equal(got, place.First(r.c)) {
			t.Fatalf("%v: all words are %v", r.c, got)
		}
	}
}

// A free list that falls makes each pass find one grey cell: a cycle takes many steps, but not more than the promise has.
func TestCyclesOfManyPasses(t *testing.T) {
	for _, r := range []struct{ cells, steps int }{{2, 28}, {3, 41}, {10, 188}, {100, 10808}, {300, 92408}} {
		c := api.Config{Cells: r.cells, Muts: 1, Regs: 1}
		down := make([]int, r.cells)
		for i := range down {
			down[i] = r.cells - 1 - i
		}
		if was := mustGoRound(t, c, heap(c, down, always(0), always(0), always(0), always(0)), down); was.steps != r.steps {
			t.Errorf("%d cells took %d steps, not %d", r.cells, was.steps, r.steps)
		}
	}
}

// Nothing but one free cell is reached: all others are appended.
func TestCyclesOfGarbage(t *testing.T) {
	for _, c := range append(small(), wide, most) {
		for _, first := range []int{0, c.Cells / 2, c.Cells - 1} {
			for _, w := range []api.Word{0, 8, 8193, last} {
				was := mustGoRound(t, c, heap(c, []int{first}, always(w), always(0), func(i int) api.Word { return cell((i + 1) % c.Cells) }, always(0)), []int{first})
				if len(was.put) != c.Cells-1 || !slices.IsSorted(was.put) {
					t.Fatalf("%v: %v were appended", c, was.put)
				}
			}
		}
	}
}

// hues are rules for the colours of cells at first: all White, as behind a cycle by itself, and cells of all colours.
func hues() []rule {
	return []rule{
		always(0), always(1), always(2), around(0, 1), around(1, 0, 0), around(0, 2), around(2, 0, 0), around(1, 2), around(0, 1, 2), around(0, 0, 0, 2, 1, 0, 2),
		drawn(1, 0, 1, 2), drawn(2, 0, 0, 0, 1), drawn(3, 0, 0, 0, 2), drawn(4, 0, 2, 2, 1),
	}
}

// Whole cycles of several configurations, over words of all sorts whose free list is one.
func TestCyclesOfAllSorts(t *testing.T) {
	for _, c := range append(small(), wide) {
		inside := []api.Word{0}
		for i := range c.Cells {
			inside = append(inside, cell(i))
		}
		beyond := cell(c.Cells)
		sorts := []rule{
			always(0), always(1), always(beyond), around(words()...), hashed,
			func(i int) api.Word { return cell((i + 1) % c.Cells) },
			func(i int) api.Word { return cell((3*i + 2) % c.Cells) },
			drawn(5, inside...), drawn(6, append(words(), inside...)...), drawn(7, 0, 0, 0, 2, 5, beyond, last),
		}
		for k, list := range lists(c) {
			for n, hue := range hues() {
				for m, sort := range sorts {
					root := sorts[(2*k+n+m)%len(sorts)]
					cdr := sorts[(k+m+3)%len(sorts)]
					mustGoRound(t, c, heap(c, list, root, sort, cdr, hue), list)
					mustGoRound(t, c, heap(c, list, always(0), sort, cdr, hue), list)
				}
			}
		}
	}
}

// Cells that are reached by cars and cdrs of each other, in no plain order.
func TestCyclesOfGraphs(t *testing.T) {
	for _, c := range []api.Config{three, some, more, wide, {Cells: 30, Muts: 2, Regs: 3, Globs: 1}} {
		cells := []api.Word{0, 0, 6, cell(c.Cells)}
		for i := range c.Cells {
			cells = append(cells, cell(i))
		}
		for seed := range 600 {
			list := lists(c)[seed%7]
			hue := hues()[seed/7%len(hues())]
			few := drawn(seed, 0, 0, 0, 0, 4, cell(seed%c.Cells), cell(seed/3%c.Cells))
			mustGoRound(t, c, heap(c, list, few, drawn(seed+7000, cells...), drawn(seed+9000, cells...), hue), list)
		}
	}
}

// rows are all rows of unlike numbers below n, of one at least.
func rows(n int) [][]int {
	var l [][]int
	for i := range n {
		l = append(l, []int{i})
	}
	for k := 0; k < len(l); k++ {
		for i := range n {
			if !slices.Contains(l[k], i) {
				l = append(l, append(slices.Clone(l[k]), i))
			}
		}
	}
	return l
}

// digit is the k-th digit of a number, by a base: so all rows of digits are gone through.
func digit(n, k, base int) int {
	for range k {
		n /= base
	}
	return n % base
}

// All memories of two cells: all lists, what the register, cars and cdrs are, and all colours.
func TestAllMemoriesOfTwo(t *testing.T) {
	values := []api.Word{0, 1, 3, 5}
	for _, list := range rows(2) {
		for n := range 4 * 4 * 4 * 4 * 4 * 9 {
			value := func(k int) api.Word { return values[digit(n, k, 4)] }
			l := heap(least, list,
				func(int) api.Word { return value(0) },
				func(i int) api.Word { return value(1 + i) },
				func(i int) api.Word { return value(3 + i) },
				func(i int) api.Word { return api.Word(digit(n>>10, i, 3)) })
			mustGoRound(t, least, l, list)
		}
	}
}

// All memories of three cells that are White at first: all lists, and what the register, cars and cdrs are; the colours of some of them, too.
func TestAllMemoriesOfThree(t *testing.T) {
	values := []api.Word{0, 1, 3, 5}
	for k, list := range rows(3) {
		for n := range 1 << 14 {
			value := func(k int) api.Word { return values[n>>(2*k)%4] }
			hues := []rule{always(0)}
			if n%3 == 1 {
				hues = append(hues, func(i int) api.Word { return api.Word(digit(n/3+k, i, 3)) })
			}
			for _, hue := range hues {
				l := heap(three, list,
					func(int) api.Word { return value(0) },
					func(i int) api.Word { return value(1 + i) },
					func(i int) api.Word { return value(4 + i) }, hue)
				mustGoRound(t, three, l, list)
			}
		}
	}
}

// Many cells, with few and with many mutators.
func TestCyclesOfManyCells(t *testing.T) {
	for _, c := range []api.Config{most, {Cells: 4096, Muts: 1, Regs: 1}, {Cells: 300, Muts: 63, Regs: 2, Globs: 1}} {
		next := func(i int) api.Word { return cell((i + 1) % c.Cells) }
		twice := func(i int) api.Word { return cell(min(2*i+1, c.Cells-1)) }
		for k, list := range [][]int{{0}, {c.Cells - 1}, {c.Cells / 2, 7}} {
			for _, root := range []rule{always(0), always(5), around(words()...), hashed} {
				mustGoRound(t, c, heap(c, list, root, twice, around(0, 5, 8193), hues()[k]), list)
				mustGoRound(t, c, heap(c, list, root, always(0), next, hues()[k+5]), list)
			}
		}
	}
}

// Of whatever words there are a cycle ends, in as many steps, with one flip; only that the mutators are idle is asked.
func TestCyclesEnd(t *testing.T) {
	for _, c := range append(small(), wide) {
		for _, l := range memories(c) {
			for _, tail := range []int{0, c.Cells - 1, c.Cells, -1} {
				l = slices.Clone(l)
				for m := range c.Muts {
					l[5+m] &^= 3
				}
				x := collector.Begin(c)
				x.Tail = tail
				if _, r := goRound(t, from(t, c, l...), x); r.flips != 1 {
					t.Fatalf("%v: %d flips came in a cycle of %v", c, r.flips, l)
				}
			}
		}
	}
}

// do does a whole operation of a mutator.
func do(t *testing.T, h *hand.Hand, m int, o api.Op) int {
	t.Helper()
	x := gate.Begin(o)
	for range 100 {
		next, _, done := lisp.Step(h, m, x)
		if done {
			return next.Ret
		}
		x = next
	}
	t.Fatalf("%+v doesn't end", o)
	return 0
}

// By hand, cycle by cycle: what is let go in between is appended, and nothing else is.
func TestCyclesOneBehindTheOther(t *testing.T) {
	h := from(t, some, place.First(some)...)
	m := h.Map
	x := collector.Begin(some)
	for k, r := range []struct {
		ahead func()
		list  []int
	}{
		{func() {}, []int{0, 1, 2, 3, 4}},
		{func() { h.Store(0, 5); h.Store(m.Reg(1, 1), 1) }, []int{2, 3, 4}}, // the register has the cell 0, whose cdr is 1
		{func() { h.Store(m.Cdr(1), 0) }, []int{2, 3, 4}},
		{func() { h.Store(m.Cdr(0), 0) }, []int{2, 3, 4, 1}},
		{func() { h.Store(m.Reg(1, 1), 0) }, []int{2, 3, 4, 1, 0}},
		{func() { h.Store(0, 9) }, []int{4, 1, 0, 2, 3}}, // the cells 2 and 3 were let go
		{func() { h.Store(0, 1); h.Store(m.Glob(1), 3); h.Store(m.Cdr(1), 1) }, []int{0, 2, 3, 4}},
		{func() {}, []int{0, 2, 3, 4}},
		{func() { h.Store(m.Glob(1), 4) }, []int{0, 2, 3, 4, 1}},
		{func() {}, []int{0, 2, 3, 4, 1}},
	} {
		r.ahead()
		next, _ := mustCycle(t, h, x)
		got, ok := pop.List(some, h.All()...)
		if !ok || !slices.Equal(got, r.list) || next.Tail != r.list[len(r.list)-1] || next.Cycles != k+1 {
			t.Fatalf("behind %d cycles the list is %v, %v, not %v, and it is %+v", k+1, got, ok, r.list, next)
		}
		x = next
	}
}

// With a mutator that does whole operations between cycles: cons finds no cell until what was let go was appended, which a cycle that finds it shaded leaves to the next one.
func TestCyclesBetweenOperations(t *testing.T) {
	cons, forget := api.Op{Kind: api.OpCons}, api.Op{Kind: api.OpSet}
	for _, c := range []api.Config{least, three, some, wide} {
		h := from(t, c, place.First(c)...)
		x := collector.Begin(c)
		for turn := range 5 {
			list, _ := pop.List(c, h.All()...)
			for range len(list) - 1 {
				if ret := do(t, h, 0, cons); ret != api.RetOK {
					t.Fatalf("%v: cons in the turn %d is %d", c, turn, ret)
				}
			}
			if ret := do(t, h, 0, cons); len(list) != c.Cells || ret != api.RetFull {
				t.Fatalf("%v: of the list %v cons in the turn %d is %d", c, list, turn, ret)
			}
			if turn%2 == 0 {
				do(t, h, 0, forget)
			}
			x = mustAppend(t, h, x, 0)
			do(t, h, 0, forget)
			x = mustAppend(t, h, x, c.Cells-1)
			x = mustAppend(t, h, x, 0)
		}
	}
}

// mustAppend goes once round, and counts the cells that are appended.
func mustAppend(t *testing.T, h *hand.Hand, x api.Col, cells int) api.Col {
	t.Helper()
	next, r := mustCycle(t, h, x)
	if len(r.put) != cells {
		t.Fatalf("%v: the cycle of %+v appended %v", h.Config, x, r.put)
	}
	return next
}

// In the midst of a cycle nothing hangs on anything but the words and how far the collector is: another hand goes on alike.
func TestAnotherHandGoesOn(t *testing.T) {
	list := []int{3}
	l := heap(some, list, around(3, 0, 8, 5), around(0, 5, 2), around(9, 0, 1), always(0))
	h := from(t, some, l...)
	x := collector.Begin(some)
	x.Tail = 3
	for n := 0; x.Cycles < 2; n++ {
		if n > 2*bound(some) {
			t.Fatalf("behind %d steps it is %+v", n, x)
		}
		other := from(t, some, h.All()...)
		want, what := collector.Step(other, x)
		got, was := collector.Step(h, x)
		if got != want || was != what || h.Access != other.Access || !slices.Equal(h.All(), other.All()) {
			t.Fatalf("Step(%+v) = %+v, %d, and then %+v, %d", x, want, what, got, was)
		}
		x = got
	}
}

// P1, and each answer at all arguments, held against the layers' own steps and the promises' words.
func FuzzCalls(f *testing.F) {
	for line := -1; line <= 25; line++ {
		f.Add(2, line, 0, 0, 0, 0, uint64(0), uint64(0), false, 0)
		f.Add(3, line, 1, 1, 4, 1, uint64(2), uint64(3), true, 7)
		f.Add(9, line, math.MinInt, math.MinInt, math.MinInt, -1, uint64(1), uint64(math.MaxUint64), false, math.MaxInt)
		f.Add(4, line, math.MaxInt, math.MaxInt, math.MaxInt, 5, uint64(math.MaxUint64), uint64(1), true, math.MinInt)
		f.Add(64, line, 8, 63, 1, math.MaxInt, uint64(3), uint64(5), true, -1)
	}
	f.Fuzz(func(t *testing.T, cells, line, j, i, m, tail int, a, w uint64, found bool, cycles int) {
		if got := collector.Begin(api.Config{Cells: cells, Muts: m, Regs: j, Globs: i}); cells > math.MinInt && got != (api.Col{Line: 1, Tail: cells - 1}) {
			t.Fatalf("Begin of %d cells = %+v", cells, got)
		}
		c := api.Config{Cells: 2 + int(uint(cells)%64), Muts: 2, Regs: 3, Globs: 1}
		x := api.Col{Line: line, J: j, C: i, M: m, A: api.Word(a), P: api.Word(w), Found: found, Tail: tail, Cycles: cycles}
		mustBeOnALine(t, line)
		if got, what := collector.Step(nil, x); got != x || what != 0 {
			t.Fatalf("Step(nil, %+v) = %+v, %d", x, got, what)
		}
		pick := drawn(int(a%1000), 0, 1, 2, 3, api.Word(a), api.Word(w), cell(c.Cells-1))
		for _, l := range [][]api.Word{filled(c, api.Word(w)), filled(c, 0), mixed(c), heap(c, []int{0}, pick, pick, pick, pick)} {
			if slices.Contains(lines(), line) {
				mustBeOfItsLayer(t, c, l, x)
				continue
			}
			h := from(t, c, l...)
			h.Access = stray()
			mustStep(t, h, x, x, 0, api.Access{}, l)
		}
		list := []int{int(uint(i) % uint(c.Cells))}
		if n := int(uint(tail) % uint(c.Cells)); n != list[0] {
			list = append(list, n)
		}
		mustGoRound(t, c, heap(c, list, pick, pick, always(api.Word(w)), drawn(line&255, 0, 0, 1, 2)), list)
	})
}

// A first cycle, by what its steps were.
func ExampleStep() {
	h, _ := hand.New(least)
	x, what := collector.Begin(least), 0
	for n := 0; n < bound(least) && x.Cycles == 0; n++ {
		if x, what = collector.Step(h, x); what == api.ColFlip {
			fmt.Println("flip", h.All())
		}
	}
	fmt.Println("cycles", x.Cycles, h.All())
	// Output:
	// flip [1 1 0 0 0 0 0 0 3 2 0 0 2]
	// cycles 1 [1 0 0 0 0 0 0 0 3 0 0 0 0]
}
