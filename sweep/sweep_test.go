package sweep_test

import (
	"fmt"
	"math"
	"slices"
	"testing"

	"mudlark/api"
	"mudlark/arena"
	"mudlark/bar"
	"mudlark/hand"
	"mudlark/pass"
	"mudlark/place"
	"mudlark/pop"
	"mudlark/roots"
	"mudlark/sweep"
)

const last = api.Word(math.MaxUint64)

var (
	least = api.Config{Cells: 2, Muts: 1, Regs: 1, Globs: 0}
	three = api.Config{Cells: 3, Muts: 1, Regs: 1, Globs: 0}
	four  = api.Config{Cells: 4, Muts: 3, Regs: 1, Globs: 0}
	some  = api.Config{Cells: 5, Muts: 2, Regs: 2, Globs: 2}
	most  = api.Config{Cells: 4096, Muts: 63, Regs: 64, Globs: 64}
)

func small() []api.Config {
	return []api.Config{least, three, four, some, {Cells: 9, Muts: 1, Regs: 4, Globs: 3}}
}

func right() []api.Config {
	return append(small(), most, api.Config{Cells: 4096, Muts: 1, Regs: 1}, api.Config{Cells: 2, Muts: 63, Regs: 64, Globs: 64})
}

// otherLines are lines of other layers, lines that there aren't, and the ends of int.
func otherLines() []int {
	l := []int{
		25, 26, 30, 34, 41, 80, 81, 90, 101, 256 + 20, 256 + 23, 1 << 16, 1<<32 + 20, 1<<32 + 23, 1<<32 + 24,
		-1, -2, -20, -21, -23, -24, -236, -233, math.MinInt, math.MinInt + 20, math.MinInt + 23, math.MaxInt - 1, math.MaxInt,
	}
	for line := range 20 {
		l = append(l, line)
	}
	return l
}

func lines() []int {
	return []int{20, 21, 22, 23, 24}
}

// words are words of all sorts: cells of small maps and of great ones, nil, atoms, and words that are neither.
func words() []api.Word {
	return []api.Word{
		0, 1, 2, 3, 4, 5, 6, 7, 9, 11, 34, 8189, 8190, 8191, 8192, 8193, 8195, 1<<16 + 1, 1 << 32, 1<<32 + 1, 1<<32 + 3,
		1<<63 - 2, 1<<63 - 1, 1 << 63, 1<<63 + 1, last - 2, last - 1, last,
	}
}

// colours are all colours, and words that are none.
func colours() []api.Word {
	return []api.Word{api.White, api.Grey, api.Black, 3, 4, 6, 256, 258, 1 << 32, 1<<32 + 1, 1<<32 + 2, 1 << 63, 1<<63 + 2, last - 1, last}
}

// there are numbers of cells: all of a small configuration; of others the ends, and some between.
func there(c api.Config) []int {
	if c.Cells > 64 {
		return []int{0, 1, 2, 63, 64, c.Cells / 2, c.Cells - 3, c.Cells - 2, c.Cells - 1}
	}
	var l []int
	for i := range c.Cells {
		l = append(l, i)
	}
	return l
}

// notThere are numbers that no cell of the map has. Some of them come round to small places, if they are multiplied by three.
func notThere(c api.Config) []int {
	n := c.Cells
	return []int{
		n, n + 1, n + 2, n + 3, 2 * n, sizeOf(c) + n, 4096, 4097, 5000, 1 << 16, 1 << 32, 1<<32 + 1, 1 << 62, math.MaxInt/3 + 1, math.MaxInt - 2, math.MaxInt - 1, math.MaxInt,
		-1, -2, -3, -4, -n, -n - 1, -sizeOf(c), -1 << 32, 1 - 1<<32, -1 << 62, math.MinInt / 3, math.MinInt, math.MinInt + 1,
	}
}

func all(c api.Config) []int {
	return append(there(c), notThere(c)...)
}

// isThere tells whether a map has a cell of that number.
func isThere(c api.Config, i int) bool {
	return i >= 0 && i < c.Cells
}

// cell is the word of a cell, as chapter 1 has it: nil of a number that no cell has.
func cell(i int) api.Word {
	if i < 0 || i > 4095 {
		return 0
	}
	return api.Word(2*i + 1)
}

// busy are collectors with nothing, with something in each field, and with the ends of their types there.
func busy() []api.Col {
	least, most := math.MinInt, math.MaxInt
	return []api.Col{
		{},
		{Line: 18, J: 1, C: 2, M: 3, A: 4, P: 5, Found: true, Tail: 1, Cycles: 7},
		{Line: 2, J: -1, C: -2, M: -3, A: 7, P: 1, Tail: -6, Cycles: -7},
		{Line: least, J: least, C: least, M: least, A: last, P: last, Found: true, Tail: least, Cycles: least},
		{Line: most, J: most, C: most, M: most, A: last - 1, P: 8191, Tail: most, Cycles: most - 1},
	}
}

// on is a collector on a line, with a cell: all else is kept.
func on(x api.Col, line, c int) api.Col {
	x.Line, x.C = line, c
	return x
}

// tailed is a collector with a last cell of the free list.
func tailed(x api.Col, tail int) api.Col {
	x.Tail = tail
	return x
}

// cycled is a collector that has so many cycles behind it.
func cycled(x api.Col, cycles int) api.Col {
	x.Cycles = cycles
	return x
}

// behind is a collector that is done with a cell, and what that was: 3, if the cycle is over by it.
// Behind the greatest int it is over, too.
func behind(c api.Config, x api.Col) (api.Col, int) {
	if x.C != math.MaxInt && x.C+1 < c.Cells {
		return on(x, 20, x.C+1), 0
	}
	x.Line, x.J, x.P = 1, 0, 0
	x.C++
	x.Cycles++
	return x, 3
}

// looked is a collector that has looked at the colour of its cell, and what that was.
func looked(c api.Config, x api.Col, colour api.Word) (api.Col, int) {
	switch colour {
	case 0:
		return on(x, 21, x.C), 0
	case 2:
		return on(x, 24, x.C), 0
	}
	return behind(c, x)
}

// appended is a collector that has appended its cell, and what that was.
func appended(c api.Config, x api.Col) (api.Col, int) {
	x, what := behind(c, tailed(x, x.C))
	return x, what + 2
}

func firstCell(c api.Config) int {
	return 5 + c.Muts + c.Globs + c.Muts*c.Regs
}

func sizeOf(c api.Config) int {
	return firstCell(c) + 3*c.Cells
}

// carAt, cdrAt and colourAt are places of a cell that there is, as chapter 4 has them.
func carAt(c api.Config, i int) int {
	return firstCell(c) + 3*i
}

func cdrAt(c api.Config, i int) int {
	return firstCell(c) + 3*i + 1
}

func colourAt(c api.Config, i int) int {
	return firstCell(c) + 3*i + 2
}

// mixed are the words of a memory, no two of which are alike, and none of which is nil, a cell or a colour: a word that is changed is seen.
func mixed(c api.Config) []api.Word {
	l := make([]api.Word, sizeOf(c))
	for at := range l {
		l[at] = api.Word(at+1) * 0x9e3779b97f4a7c15
	}
	return l
}

// filled are the words of a memory, all of which are one.
func filled(c api.Config, w api.Word) []api.Word {
	l := make([]api.Word, sizeOf(c))
	for at := range l {
		l[at] = w
	}
	return l
}

// with are words of which one is another one.
func with(l []api.Word, at int, x api.Word) []api.Word {
	l = slices.Clone(l)
	l[at] = x
	return l
}

func from(t *testing.T, c api.Config, l ...api.Word) *hand.Hand {
	t.Helper()
	h, e := hand.From(c, l...)
	if h == nil || e != api.OK {
		t.Fatalf("From(%v) of %d words = %v, %d", c, len(l), h, e)
	}
	return h
}

// mustHave holds the access and all words of a hand against what they must be.
func mustHave(t *testing.T, what string, h *hand.Hand, x api.Access, want []api.Word) {
	t.Helper()
	if h.Access != x {
		t.Fatalf("%s: the access is %+v, not %+v", what, h.Access, x)
	}
	if got := h.All(); !slices.Equal(got, want) {
		t.Fatalf("%s: all words are %v, not %v", what, got, want)
	}
}

// mustStep does a line, and holds its answer, the access and all words against what they must be.
// What C or Cycles is isn't asked, where it is to be 1 more than the greatest int: no int is.
func mustStep(t *testing.T, h *hand.Hand, x, want api.Col, was int, did api.Access, words []api.Word) {
	t.Helper()
	c := h.Config
	got, what, ok := sweep.Step(h, x)
	if x.C == math.MaxInt && want.Line == 1 {
		want.C = got.C
	}
	if x.Cycles == math.MaxInt && want.Line == 1 {
		want.Cycles = got.Cycles
	}
	if !ok || got != want || what != was {
		t.Fatalf("%v: Step(%+v) = %+v, %d, %v, not %+v, %d", c, x, got, what, ok, want, was)
	}
	mustHave(t, fmt.Sprintf("%v: behind %+v", c, x), h, did, words)
	if h.Config != c {
		t.Fatalf("behind %+v the map is that of %v, not of %v", x, h.Config, c)
	}
}

// mustRefuse holds Step's answer on a line of another layer, or with a nil hand, against what it must be.
func mustRefuse(t *testing.T, h *hand.Hand, x api.Col) {
	t.Helper()
	if got, what, ok := sweep.Step(h, x); ok || what != 0 || got != x {
		t.Fatalf("Step(%+v) = %+v, %d, %v", x, got, what, ok)
	}
}

// The accesses of this layer's lines.
func loading(at int, old api.Word) api.Access {
	return api.Access{Kind: api.ALoad, At: at, Old: old}
}

func storing(at int, x, old api.Word) api.Access {
	return api.Access{Kind: api.AStore, At: at, X: x, Old: old}
}

// stray is an access that no step does: what a step leaves of it is seen.
func stray() api.Access {
	return api.Access{Kind: 99, At: 98, X: 97, Y: 96, Old: 95}
}

// P18.1

// row is what one step of an example must be: where it leads, what it was, its access, and the word that is there then.
type row struct {
	to   api.Col
	what int
	did  api.Access
	is   api.Word
}

// mustGo goes step by step, and holds each one's answer, its access and all words behind it against what they must be.
func mustGo(t *testing.T, h *hand.Hand, x api.Col, rows ...row) {
	t.Helper()
	l := h.All()
	for _, r := range rows {
		l = with(l, r.did.At, r.is)
		mustStep(t, h, x, r.to, r.what, r.did, l)
		x = r.to
	}
	mustRefuse(t, h, x)
	mustHave(t, "at the end", h, rows[len(rows)-1].did, l)
}

// Two cells, the first one Black, the second one White, Tail 0: 20, 24; 20, 21, 22, 23: the list 0, 1.
func TestExample(t *testing.T) {
	h := from(t, least, 1, 0, 0, 0, 0, 0, 0, 4, 0, 2, 1, 3, 0)
	mustGo(t, h, api.Col{Line: 20},
		row{api.Col{Line: 24}, 0, loading(9, 2), 2},
		row{api.Col{Line: 20, C: 1}, 0, storing(9, 0, 2), 0},
		row{api.Col{Line: 21, C: 1}, 0, loading(12, 0), 0},
		row{api.Col{Line: 22, C: 1}, 0, storing(10, 0, 1), 0},
		row{api.Col{Line: 23, C: 1}, 0, storing(11, 0, 3), 0},
		row{api.Col{Line: 1, C: 2, Tail: 1, Cycles: 1}, 5, storing(8, 3, 0), 3})
	if got := h.All(); !slices.Equal(got, []api.Word{1, 0, 0, 0, 0, 0, 0, 4, 3, 0, 0, 0, 0}) {
		t.Errorf("at the end all words are %v", got)
	}
	if l, ok := pop.List(least, h.All()...); !ok || !slices.Equal(l, []int{0, 1}) {
		t.Errorf("the list is %v, %v", l, ok)
	}
}

// By hand: four cells, of which the third one is the list, and all that the collector has beside it stays until the cycle is over.
func TestExampleOfFour(t *testing.T) {
	c := api.Config{Cells: 4, Muts: 1, Regs: 1}
	h := from(t, c, 5, 9, 9, 9, 9, 9, 9, 5, 7, 0, 3, 7, 2, 8, 0, 1, 5, 1, 0)
	x := func(line, c, tail int) api.Col {
		return api.Col{Line: line, J: 4, C: c, M: 6, A: 12, P: 3, Found: true, Tail: tail, Cycles: 8}
	}
	mustGo(t, h, x(20, 0, 2),
		row{x(21, 0, 2), 0, loading(9, 0), 0},
		row{x(22, 0, 2), 0, storing(7, 0, 5), 0},
		row{x(23, 0, 2), 0, storing(8, 0, 7), 0},
		row{x(20, 1, 0), 2, storing(14, 1, 0), 1},
		row{x(24, 1, 0), 0, loading(12, 2), 2},
		row{x(20, 2, 0), 0, storing(12, 0, 2), 0},
		row{x(20, 3, 0), 0, loading(15, 1), 1},
		row{x(21, 3, 0), 0, loading(18, 0), 0},
		row{x(22, 3, 0), 0, storing(16, 0, 5), 0},
		row{x(23, 3, 0), 0, storing(17, 0, 1), 0},
		row{api.Col{Line: 1, C: 4, M: 6, A: 12, Found: true, Tail: 3, Cycles: 9}, 5, storing(8, 7, 0), 7})
	if got := h.All(); !slices.Equal(got, []api.Word{5, 9, 9, 9, 9, 9, 9, 0, 7, 0, 3, 7, 0, 8, 1, 1, 0, 0, 0}) {
		t.Errorf("at the end all words are %v", got)
	}
	if l, ok := pop.List(c, h.All()...); !ok || !slices.Equal(l, []int{2, 0, 3}) {
		t.Errorf("the list is %v, %v", l, ok)
	}
}

// By hand: cycles that are over by a Black cell, and by one of another colour.
func TestExamplesOfOtherEnds(t *testing.T) {
	over := api.Col{Line: 1, C: 2, M: 6, A: 12, Tail: 1, Cycles: 1}
	x := func(line, c int) api.Col {
		return api.Col{Line: line, J: 4, C: c, M: 6, A: 12, P: 3, Tail: 1}
	}
	mustGo(t, from(t, least, 1, 0, 0, 0, 0, 0, 0, 4, 3, 2, 1, 0, 2), x(20, 0),
		row{x(24, 0), 0, loading(9, 2), 2},
		row{x(20, 1), 0, storing(9, 0, 2), 0},
		row{x(24, 1), 0, loading(12, 2), 2},
		row{over, 3, storing(12, 0, 2), 0})
	mustGo(t, from(t, least, 1, 0, 0, 0, 0, 0, 0, 4, 3, 1, 1, 0, 1), x(20, 0),
		row{x(20, 1), 0, loading(9, 1), 1},
		row{over, 3, loading(12, 1), 1})
	mustGo(t, from(t, least, 1, 0, 0, 0, 0, 0, 0, 4, 3, 4, 1, 0, 3), x(20, 0),
		row{x(20, 1), 0, loading(9, 4), 4},
		row{over, 3, loading(12, 3), 3})
}

// The line 20 of each C, with each colour, and with words that are none; of a C that is no cell of the map no access is done, the one that was done ahead is gone, and what is loaded is White.
func TestLooking(t *testing.T) {
	for _, c := range right() {
		for k, i := range all(c) {
			for n, colour := range colours() {
				x := on(busy()[(k+n)%len(busy())], 20, i)
				if !isThere(c, i) {
					h := from(t, c, filled(c, colour)...)
					h.Access = stray()
					mustStep(t, h, x, on(x, 21, i), 0, api.Access{}, filled(c, colour))
					continue
				}
				l := with(mixed(c), colourAt(c, i), colour)
				h := from(t, c, l...)
				h.Access = stray()
				want, what := looked(c, x, colour)
				mustStep(t, h, x, want, what, loading(colourAt(c, i), colour), l)
			}
		}
	}
}

// By hand: each colour, of the cell ahead of the last one, of the last one, and of what is none.
func TestLookingByHand(t *testing.T) {
	b := api.Col{Line: 20, J: 4, M: 6, A: 8, P: 3, Found: true, Tail: 5, Cycles: 7}
	over := api.Col{Line: 1, C: 2, M: 6, A: 8, Found: true, Tail: 5, Cycles: 8}
	for _, r := range []struct {
		colour api.Word
		i      int
		want   api.Col
		what   int
	}{
		{0, 0, on(b, 21, 0), 0}, {1, 0, on(b, 20, 1), 0}, {2, 0, on(b, 24, 0), 0}, {3, 0, on(b, 20, 1), 0},
		{0, 1, on(b, 21, 1), 0}, {1, 1, over, 3}, {2, 1, on(b, 24, 1), 0}, {3, 1, over, 3},
		{1 << 32, 0, on(b, 20, 1), 0}, {1<<32 + 2, 0, on(b, 20, 1), 0}, {1 << 32, 1, over, 3}, {1<<32 + 2, 1, over, 3}, {last, 1, over, 3},
	} {
		at := []int{9, 12}[r.i]
		l := with(mixed(least), at, r.colour)
		mustStep(t, from(t, least, l...), on(b, 20, r.i), r.want, r.what, loading(at, r.colour), l)
	}
	for _, i := range []int{math.MinInt, -4096, -3, -2, -1, 2, 3, 4095, 4096, 1 << 32, math.MaxInt - 1, math.MaxInt} {
		for _, w := range colours() {
			mustStep(t, from(t, least, filled(least, w)...), on(b, 20, i), on(b, 21, i), 0, api.Access{}, filled(least, w))
		}
	}
}

// Only the cell's own colour is looked at: those of all others, and all other words, say something else.
func TestLookingAtOneAmongOthers(t *testing.T) {
	for _, c := range small() {
		for _, i := range there(c) {
			for _, w := range []api.Word{0, 1, 2, 3} {
				for _, colour := range []api.Word{0, 1, 2, 3} {
					l := with(filled(c, w), colourAt(c, i), colour)
					x := on(busy()[1], 20, i)
					want, what := looked(c, x, colour)
					mustStep(t, from(t, c, l...), x, want, what, loading(colourAt(c, i), colour), l)
				}
			}
		}
	}
}

// All that a collector may have beside it, at each end of each line.
func TestEachLineKeepsTheRest(t *testing.T) {
	for _, b := range busy() {
		for _, line := range lines() {
			for _, i := range all(some) {
				for _, tail := range []int{b.Tail, 0, 3, 4, 5, -1} {
					for _, colour := range []api.Word{0, 1, 2} {
						x := tailed(on(b, line, i), tail)
						x.Found = !b.Found
						mustBeOfTheTable(t, some, with(mixed(some), colourAt(some, max(0, min(i, 4))), colour), x)
					}
				}
			}
		}
	}
}

// clearing is a line that stores nil, and where it leads.
type clearing struct {
	line, next int
	at         func(c api.Config, i int) int
}

func clearings() []clearing {
	return []clearing{{21, 22, carAt}, {22, 23, cdrAt}}
}

// The lines 21 and 22 of each C, whatever word is there: with the last cell, too, they go on with it; of a C that is no cell of the map no access is done, and the one that was done ahead is gone.
func TestClearing(t *testing.T) {
	for _, c := range right() {
		for _, r := range clearings() {
			for k, i := range all(c) {
				for n, w := range words() {
					x := on(busy()[(k+n)%len(busy())], r.line, i)
					l := filled(c, w)
					did, want := api.Access{}, l
					if isThere(c, i) {
						l = with(mixed(c), r.at(c, i), w)
						did, want = storing(r.at(c, i), 0, w), with(l, r.at(c, i), 0)
					}
					h := from(t, c, l...)
					h.Access = stray()
					mustStep(t, h, x, on(x, r.next, i), 0, did, want)
				}
			}
		}
	}
}

// By hand: the last cell, the one ahead of it, and what is no cell of the map.
func TestClearingByHand(t *testing.T) {
	b := api.Col{J: 4, M: 6, A: 8, P: 3, Found: true, Tail: 5, Cycles: 7}
	for _, w := range []api.Word{0, 1, 3, 5, 4, 8193, last} {
		l := filled(three, w)
		for _, r := range []struct{ line, i, next, at int }{
			{21, 0, 22, 7}, {21, 1, 22, 10}, {21, 2, 22, 13}, {22, 0, 23, 8}, {22, 1, 23, 11}, {22, 2, 23, 14},
		} {
			mustStep(t, from(t, three, l...), on(b, r.line, r.i), on(b, r.next, r.i), 0, api.Access{Kind: api.AStore, At: r.at, X: 0, Old: w}, with(l, r.at, 0))
		}
		for _, i := range []int{math.MinInt, -2, -1, 3, 4, 4096, math.MaxInt - 1, math.MaxInt} {
			mustStep(t, from(t, three, l...), on(b, 21, i), on(b, 22, i), 0, api.Access{}, l)
			mustStep(t, from(t, three, l...), on(b, 22, i), on(b, 23, i), 0, api.Access{}, l)
		}
	}
}

// The line 23 of each C behind each Tail: C is stored as a cell, nil of what has no word of one; of a Tail that is no cell of the map no access is done, the one that was done ahead is gone, and C is Tail then all the same.
func TestAppending(t *testing.T) {
	for _, c := range right() {
		// All of these against each other, and but few words of a great memory.
		ends := []int{0, c.Cells - 2, c.Cells - 1}
		for k, i := range all(c) {
			for n, tail := range append(append(ends, i), notThere(c)[k%7:]...) {
				x := tailed(on(busy()[(k+n)%len(busy())], 23, i), tail)
				w := words()[(k+n)%len(words())]
				l, did := filled(c, w), api.Access{}
				want := l
				if isThere(c, tail) {
					l = with(mixed(c), cdrAt(c, tail), w)
					did, want = storing(cdrAt(c, tail), cell(i), w), with(l, cdrAt(c, tail), cell(i))
				}
				h := from(t, c, l...)
				h.Access = stray()
				next, what := appended(c, x)
				mustStep(t, h, x, next, what, did, want)
			}
		}
	}
}

// By hand: a Tail that is another cell, C itself, and no cell of the map; a C that is the last cell, ahead of it, and no cell of the map.
func TestAppendingByHand(t *testing.T) {
	b := api.Col{J: 4, M: 6, A: 8, P: 3, Found: true, Cycles: 7}
	over := api.Col{Line: 1, M: 6, A: 8, Found: true, Cycles: 8}
	for _, r := range []struct {
		i, tail, at int
		is          api.Word
		next, what  int
	}{
		{0, 0, 8, 1, 1, 2}, {0, 1, 11, 1, 1, 2}, {0, 2, 14, 1, 1, 2},
		{1, 0, 8, 3, 2, 2}, {1, 1, 11, 3, 2, 2}, {1, 2, 14, 3, 2, 2},
		{2, 0, 8, 5, 3, 5}, {2, 1, 11, 5, 3, 5}, {2, 2, 14, 5, 3, 5},
		{3, 0, 8, 7, 4, 5}, {3, 2, 14, 7, 4, 5}, {4095, 1, 11, 8191, 4096, 5}, {4096, 1, 11, 0, 4097, 5}, {4097, 1, 11, 0, 4098, 5},
		{math.MaxInt - 1, 2, 14, 0, math.MaxInt, 5}, {-1, 0, 8, 0, 0, 2}, {-2, 2, 14, 0, -1, 2}, {math.MinInt, 0, 8, 0, math.MinInt + 1, 2},
		{0, 3, 0, 0, 1, 2}, {1, -1, 0, 0, 2, 2}, {2, 3, 0, 0, 3, 5}, {2, -1, 0, 0, 3, 5}, {2, 4096, 0, 0, 3, 5},
		{1, math.MinInt, 0, 0, 2, 2}, {2, math.MaxInt, 0, 0, 3, 5}, {3, 3, 0, 0, 4, 5}, {-1, -1, 0, 0, 0, 2},
	} {
		for _, w := range []api.Word{0, 1, 3, 4, last} {
			l := filled(three, w)
			want, did := l, api.Access{}
			if r.at > 0 {
				want, did = with(l, r.at, r.is), api.Access{Kind: api.AStore, At: r.at, X: r.is, Old: w}
			}
			next := tailed(on(over, 1, r.next), r.i)
			if r.what == 2 {
				next = tailed(on(b, 20, r.next), r.i)
			}
			mustStep(t, from(t, three, l...), tailed(on(b, 23, r.i), r.tail), next, r.what, did, want)
		}
	}
}

// The sums that a step may be, by the names that api has for them.
func TestWhatAStepWas(t *testing.T) {
	for _, r := range []struct {
		line, i int
		colour  api.Word
		what    int
	}{
		{20, 0, api.White, api.ColNone}, {20, 0, api.Grey, api.ColNone}, {20, 0, api.Black, api.ColNone},
		{20, 1, api.White, api.ColNone}, {20, 1, api.Grey, api.ColCycle}, {20, 1, api.Black, api.ColNone},
		{21, 0, 0, api.ColNone}, {21, 1, 0, api.ColNone}, {22, 0, 0, api.ColNone}, {22, 1, 0, api.ColNone},
		{23, 0, 0, api.ColAppend}, {23, 1, 0, api.ColAppend + api.ColCycle}, {24, 0, 2, api.ColNone}, {24, 1, 2, api.ColCycle},
	} {
		h := from(t, least, with(filled(least, 0), 9+3*r.i, r.colour)...)
		if _, what, ok := sweep.Step(h, api.Col{Line: r.line, C: r.i}); !ok || what != r.what {
			t.Errorf("%+v: it was %d, %v", r, what, ok)
		}
	}
}

// The line 24 of each C, whatever its colour was; of a C that is no cell of the map no access is done, and the one that was done ahead is gone.
func TestWhitening(t *testing.T) {
	for _, c := range right() {
		for k, i := range all(c) {
			for n, was := range colours() {
				x := on(busy()[(k+n)%len(busy())], 24, i)
				l := filled(c, was)
				did, want := api.Access{}, l
				if isThere(c, i) {
					l = with(mixed(c), colourAt(c, i), was)
					did, want = storing(colourAt(c, i), 0, was), with(l, colourAt(c, i), 0)
				}
				h := from(t, c, l...)
				h.Access = stray()
				next, what := behind(c, x)
				mustStep(t, h, x, next, what, did, want)
			}
		}
	}
}

// By hand: the last cell, the ones ahead of it, and what is no cell of the map.
func TestWhiteningByHand(t *testing.T) {
	b := api.Col{J: 4, M: 6, A: 8, P: 3, Found: true, Tail: 5, Cycles: 7}
	over := api.Col{Line: 1, M: 6, A: 8, Found: true, Tail: 5, Cycles: 8}
	for _, w := range []api.Word{2, 0, 1, 3, 1 << 32, last} {
		l := filled(three, w)
		for _, r := range []struct {
			i, at int
			want  api.Col
			what  int
		}{{0, 9, on(b, 20, 1), 0}, {1, 12, on(b, 20, 2), 0}, {2, 15, on(over, 1, 3), 3}} {
			mustStep(t, from(t, three, l...), on(b, 24, r.i), r.want, r.what, api.Access{Kind: api.AStore, At: r.at, X: 0, Old: w}, with(l, r.at, 0))
		}
		for _, i := range []int{math.MinInt, -4096, -3, -2, -1} {
			mustStep(t, from(t, three, l...), on(b, 24, i), on(b, 20, i+1), 0, api.Access{}, l)
		}
		for _, i := range []int{3, 4, 4095, 4096, 1 << 32, math.MaxInt - 1, math.MaxInt} {
			mustStep(t, from(t, three, l...), on(b, 24, i), on(over, 1, i+1), 3, api.Access{}, l)
		}
	}
}

// The greatest int is no cell, and 1 more is not below any number of cells, so the cycle is over.
func TestGreatestCell(t *testing.T) {
	for _, c := range right() {
		for _, b := range busy() {
			over := cycled(b, b.Cycles+1)
			over.Line, over.J, over.P = 1, 0, 0
			l := filled(c, 7)
			h := from(t, c, l...)
			h.Access = stray()
			mustStep(t, h, on(b, 24, math.MaxInt), over, 3, api.Access{}, l)
			h.Access = stray()
			mustStep(t, h, tailed(on(b, 23, math.MaxInt), 1), tailed(over, math.MaxInt), 5, storing(cdrAt(c, 1), 0, 7), with(l, cdrAt(c, 1), 0))
		}
	}
}

// How many cycles are over is counted from any number on; behind the greatest int no int is 1 more, but the step is what it is all the same.
func TestCycles(t *testing.T) {
	for _, n := range []int{math.MinInt, math.MinInt + 1, -2, -1, 0, 1, 41, 1<<31 - 1, 1<<32 - 1, math.MaxInt - 1, math.MaxInt} {
		b := cycled(api.Col{J: 4, M: 6, A: 8, P: 3, Found: true, Tail: 1}, n)
		over := api.Col{Line: 1, C: 3, M: 6, A: 8, Found: true, Tail: 1, Cycles: n + 1}
		l := filled(three, 2)
		mustStep(t, from(t, three, l...), on(b, 24, 2), over, 3, storing(15, 0, 2), with(l, 15, 0))
		mustStep(t, from(t, three, l...), on(b, 23, 2), tailed(over, 2), 5, storing(11, 5, 2), with(l, 11, 5))
		l = filled(three, 1)
		mustStep(t, from(t, three, l...), on(b, 20, 2), over, 3, loading(15, 1), l)
		// Ahead of the end nothing is counted.
		mustStep(t, from(t, three, l...), on(b, 20, 1), on(b, 20, 2), 0, loading(12, 1), l)
		mustStep(t, from(t, three, l...), on(b, 23, 1), on(b, 20, 2), 2, storing(11, 3, 1), with(l, 11, 3))
	}
}

// On other lines nothing is done, and the access of an earlier step stays as well.
func TestOtherLines(t *testing.T) {
	for _, l := range [][]api.Word{mixed(some), filled(some, 0), filled(some, 1), filled(some, 2), place.First(some)} {
		h := from(t, some, l...)
		for _, did := range []api.Access{{}, loading(0, 1), stray()} {
			h.Access = did
			for _, b := range busy() {
				for _, line := range otherLines() {
					for _, i := range []int{b.C, -1, 0, 4, 5} {
						for _, tail := range []int{b.Tail, 0, 4} {
							mustRefuse(t, h, tailed(on(b, line, i), tail))
						}
					}
					mustHave(t, fmt.Sprintf("on the line %d", line), h, did, l)
				}
			}
		}
	}
}

func TestNilHand(t *testing.T) {
	for _, b := range busy() {
		for _, line := range append(otherLines(), lines()...) {
			for _, i := range append(all(some), b.C) {
				for _, tail := range []int{b.Tail, 0, 1, i} {
					mustRefuse(t, nil, tailed(on(b, line, i), tail))
				}
			}
		}
	}
}

// A hand that has no places can do no access: what is loaded is 0, and there are as many cells as its map has.
func TestHandsWithoutPlaces(t *testing.T) {
	low := api.Config{Cells: math.MinInt, Muts: math.MinInt, Regs: math.MinInt, Globs: math.MinInt}
	for name, h := range map[string]*hand.Hand{
		"a zero hand":        {},
		"no arena":           {Map: place.Map{Config: some}},
		"no words":           {Arena: arena.New(), Map: place.Map{Config: some}},
		"one word":           {Arena: arena.New(7), Map: place.Map{Config: some}},
		"the least numbers":  {Arena: arena.New(1), Map: place.Map{Config: low}},
		"too many cells":     {Arena: arena.New(1), Map: place.Map{Config: api.Config{Cells: math.MaxInt, Muts: 1, Regs: 1}}},
		"another wrong part": {Arena: arena.New(1), Map: place.Map{Config: api.Config{Cells: 3, Muts: 1}}},
	} {
		for _, b := range busy() {
			for _, i := range append(all(some), math.MinInt+2) {
				for _, tail := range []int{b.Tail, 0, 1, i} {
					x := tailed(on(b, 0, i), tail)
					next, over := behind(h.Config, x)
					put, both := appended(h.Config, x)
					mustDoWithout(t, name, h, on(x, 20, i), on(x, 21, i), 0)
					mustDoWithout(t, name, h, on(x, 21, i), on(x, 22, i), 0)
					mustDoWithout(t, name, h, on(x, 22, i), on(x, 23, i), 0)
					mustDoWithout(t, name, h, on(x, 23, i), put, both)
					mustDoWithout(t, name, h, on(x, 24, i), next, over)
				}
			}
			for _, line := range otherLines() {
				mustRefuse(t, h, on(b, line, 0))
			}
		}
	}
}

// mustDoWithout does a line with a hand that has no place: there is no access.
func mustDoWithout(t *testing.T, name string, h *hand.Hand, x, want api.Col, was int) {
	t.Helper()
	h.Access = stray()
	got, what, ok := sweep.Step(h, x)
	if x.C == math.MaxInt && want.Line == 1 {
		want.C = got.C
	}
	if !ok || what != was || got != want || h.Access != (api.Access{}) {
		t.Fatalf("%s: Step(%+v) = %+v, %d, %v, not %+v, %d, and the access %+v", name, x, got, what, ok, want, was, h.Access)
	}
}

// mustHold holds Holds's answer against what it must be, whatever else the collector has.
func mustHold(t *testing.T, line, c, cell int, want bool) {
	t.Helper()
	for _, b := range busy() {
		if x := on(b, line, c); sweep.Holds(x, cell) != want {
			t.Fatalf("Holds(%+v, %d) = %v", x, cell, !want)
		}
	}
}

func TestHoldsByHand(t *testing.T) {
	for line, want := range map[int]bool{
		19: false, 20: false, 21: true, 22: true, 23: true, 24: false, 25: false, 0: false, 1: false, 3: false, 14: false, -21: false, -22: false,
	} {
		for _, i := range []int{0, 1, 3, 4095, 4096, -1, -2, math.MinInt, math.MaxInt} {
			mustHold(t, line, i, i, want)
		}
		for _, r := range [][2]int{{3, 2}, {3, 4}, {0, 1}, {1, 0}, {0, -1}, {-1, 0}, {-1, 1}, {1, -1}, {0, 1 << 32}, {1 << 32, 0}, {math.MinInt, math.MaxInt}, {math.MaxInt, math.MinInt}} {
			mustHold(t, line, r[0], r[1], false)
		}
	}
}

func TestHolds(t *testing.T) {
	l := []int{math.MinInt, math.MinInt + 22, -1 << 32, 22 - 1<<32, 1 << 32, 1<<32 + 21, 1<<32 + 23, math.MaxInt - 22, math.MaxInt}
	for line := -300; line <= 600; line++ {
		l = append(l, line)
	}
	numbers := []int{math.MinInt, -6, -1, 0, 1, 2, 6, 20, 21, 22, 23, 4095, 5000, math.MaxInt}
	for _, line := range l {
		for _, c := range numbers {
			for _, cell := range numbers {
				mustHold(t, line, c, cell, c == cell && line >= 21 && line <= 23)
			}
		}
	}
}

// P18.2

// heap is a memory with a free list: the words of the cars, of the cdrs of cells that aren't on it, and of all colours are told by rules.
func heap(c api.Config, list []int, car, cdr, colour func(i int) api.Word) []api.Word {
	l := mixed(c)
	for i := range c.Cells {
		l[carAt(c, i)], l[cdrAt(c, i)], l[colourAt(c, i)] = car(i), cdr(i), colour(i)
	}
	at := 0
	for _, i := range list {
		l[at] = cell(i)
		at = cdrAt(c, i)
	}
	l[at] = 0
	return l
}

// swept are the words of a memory behind a whole sweep, what its steps were, and which cells it appended, as the promise has it.
func swept(c api.Config, l []api.Word, tail int) (want []api.Word, whats, put []int) {
	want = slices.Clone(l)
	for i := range c.Cells {
		switch l[colourAt(c, i)] {
		case 0:
			want[carAt(c, i)], want[cdrAt(c, i)], want[cdrAt(c, tail)] = 0, 0, cell(i)
			tail = i
			put = append(put, i)
			whats = append(whats, 0, 0, 0, 2)
		case 2:
			want[colourAt(c, i)] = 0
			whats = append(whats, 0, 0)
		default:
			whats = append(whats, 0)
		}
	}
	whats[len(whats)-1] += 3
	return want, whats, put
}

// mustSweep does a whole sweep, and holds each step, all words and the free list behind it against what they must be.
func mustSweep(t *testing.T, c api.Config, l []api.Word, list []int, b api.Col) *hand.Hand {
	t.Helper()
	h := from(t, c, l...)
	if got, ok := pop.List(c, l...); !ok || !slices.Equal(got, list) {
		t.Fatalf("%v: the list of %v is %v, %v, not %v", c, l, got, ok, list)
	}
	want, whats, put := swept(c, l, list[len(list)-1])
	x := tailed(on(b, 20, 0), list[len(list)-1])
	for n, was := range whats {
		next, what, ok := sweep.Step(h, x)
		if !ok || what != was || (next.Line == 1) != (n == len(whats)-1) {
			t.Fatalf("%v, %v: Step(%+v) = %+v, %d, %v: it was to be %d, of %v", c, l, x, next, what, ok, was, whats)
		}
		if sweep.Holds(x, x.C) != (x.Line >= 21 && x.Line <= 23) || sweep.Holds(x, x.C+1) {
			t.Fatalf("%+v: it has %v, %v in hand", x, sweep.Holds(x, x.C), sweep.Holds(x, x.C+1))
		}
		x = next
		if c.Cells < 64 {
			mustBegin(t, c, h, list, put)
		}
	}
	after := slices.Concat(list, put)
	end := api.Col{Line: 1, C: c.Cells, M: b.M, A: b.A, Found: b.Found, Tail: after[len(after)-1], Cycles: b.Cycles + 1}
	if x != end {
		t.Fatalf("%v: behind the sweep of %v it is %+v, not %+v", c, l, x, end)
	}
	if got := h.All(); !slices.Equal(got, want) {
		t.Fatalf("%v: behind the sweep of %v all words are %v, not %v", c, l, got, want)
	}
	if got, ok := pop.List(c, h.All()...); !ok || !slices.Equal(got, after) {
		t.Fatalf("%v: behind the sweep of %v the list is %v, %v, not %v", c, l, got, ok, after)
	}
	return h
}

// mustBegin looks at the free list in the midst of a sweep: it is what it was at first, and behind it come the first ones of those that are appended.
func mustBegin(t *testing.T, c api.Config, h *hand.Hand, list, put []int) {
	t.Helper()
	got, ok := pop.List(c, h.All()...)
	full := slices.Concat(list, put)
	if !ok || len(got) < len(list) || len(got) > len(full) || !slices.Equal(got, full[:len(got)]) {
		t.Fatalf("%v: in the midst of %v the list is %v, %v, of %v and %v", c, h.All(), got, ok, list, put)
	}
}

// lists are free lists of a configuration: of one cell, of some, and of all, rising, falling, and in other orders.
func lists(c api.Config) [][]int {
	up := make([]int, c.Cells)
	for i := range up {
		up[i] = i
	}
	down := slices.Clone(up)
	slices.Reverse(down)
	n := c.Cells
	odd := []int{}
	for i := 1; i < n; i += 2 {
		odd = append(odd, i)
	}
	turned := append(slices.Clone(up[n/2:]), up[:n/2]...)
	return [][]int{{0}, {n - 1}, {n / 2}, {n - 1, 0}, up[:n-1], up[1:], down[:n/2], odd, turned[:n-1], turned, up, down}
}

// unless are cells whose colour is one thing, if they are on a list, and another one else.
func unless(list []int, listed, other func(i int) api.Word) func(i int) api.Word {
	on := map[int]bool{}
	for _, i := range list {
		on[i] = true
	}
	return func(i int) api.Word {
		if on[i] {
			return listed(i)
		}
		return other(i)
	}
}

// always is a rule that tells one word.
func always(w api.Word) func(i int) api.Word {
	return func(int) api.Word { return w }
}

// around is a rule that tells words in turn.
func around(l ...api.Word) func(i int) api.Word {
	return func(i int) api.Word { return l[i%len(l)] }
}

// hues are rules for the colours of cells that aren't on the free list: none, some and all of them White, Black and Grey, and words that are no colour.
func hues() []func(i int) api.Word {
	return []func(i int) api.Word{
		always(0), always(1), always(2), always(3), always(last),
		around(0, 1), around(1, 0), around(0, 2), around(2, 0), around(1, 2), around(2, 1),
		around(0, 1, 2), around(2, 2, 0, 1, 0), around(0, 0, 0, 2, 1, 0, 2), around(colours()...),
	}
}

// Whole sweeps of several configurations, over words of all sorts.
func TestSweepsOfAllSorts(t *testing.T) {
	for _, c := range small() {
		sorts := []func(i int) api.Word{
			always(0), always(1), always(last), around(words()...), mixedAt,
			func(i int) api.Word { return cell(i) },
			func(i int) api.Word { return cell((i + 1) % c.Cells) },
			func(i int) api.Word { return cell(c.Cells + i) },
		}
		for k, list := range lists(c) {
			for n, hue := range hues() {
				for m, sort := range sorts {
					other := sorts[(k+m+3)%len(sorts)]
					// What is on the list was shaded, as a rule, but whatever isn't White is left where it is.
					for _, listed := range []func(i int) api.Word{always(2), always(1), around(2, 1, 3, last)} {
						mustSweep(t, c, heap(c, list, sort, other, unless(list, listed, hue)), list, busy()[(k+n+m)%len(busy())])
					}
				}
			}
		}
	}
}

func mixedAt(i int) api.Word {
	return api.Word(i+7) * 0x9e3779b97f4a7c15
}

// Many cells, with few and with many mutators.
func TestSweepsOfManyCells(t *testing.T) {
	for _, c := range []api.Config{most, {Cells: 4096, Muts: 1, Regs: 1}, {Cells: 300, Muts: 63, Regs: 2, Globs: 1}} {
		for k, list := range lists(c) {
			for _, hue := range []func(i int) api.Word{always(0), always(2), always(1), around(2, 2, 0, 1, 0)} {
				l := heap(c, list, around(words()...), func(i int) api.Word { return cell((7*i + 3) % c.Cells) }, unless(list, always(2), hue))
				mustSweep(t, c, l, list, busy()[k%len(busy())])
			}
		}
	}
}

// rows are all rows of unlike numbers below n, of one at least.
func rows(n int) [][]int {
	var l [][]int
	for i := range n {
		l = append(l, []int{i})
	}
	for k := 0; k < len(l); k++ {
		for i := range n {
			if !slices.Contains(l[k], i) {
				l = append(l, append(slices.Clone(l[k]), i))
			}
		}
	}
	return l
}

// All free lists of two, three and four cells, with all colours of all cells, but that those on the list aren't White.
func TestAllListsAndColours(t *testing.T) {
	for _, c := range []api.Config{least, three, four} {
		lists := rows(c.Cells)
		if want := map[int]int{2: 4, 3: 15, 4: 64}[c.Cells]; len(lists) != want {
			t.Fatalf("of %d cells there are %d lists", c.Cells, len(lists))
		}
		count := 1
		for range c.Cells {
			count *= 4
		}
		for _, list := range lists {
			for n := range count {
				hue := func(i int) api.Word { return api.Word(n >> (2 * i) % 4) }
				if slices.ContainsFunc(list, func(i int) bool { return hue(i) == 0 }) {
					continue
				}
				mustSweep(t, c, heap(c, list, mixedAt, around(1, 3, 8193, 4), hue), list, api.Col{J: 9, P: 5, Cycles: n})
			}
		}
	}
}

// By hand: how many steps sweeps take, what each was, the list and the colours then.
func TestSweepsByHand(t *testing.T) {
	for _, r := range []struct {
		list    []int
		colours [5]api.Word
		whats   []int
		then    []int
		is      [5]api.Word
	}{
		{[]int{0, 1, 2, 3, 4}, [5]api.Word{2, 2, 2, 2, 2}, []int{0, 0, 0, 0, 0, 0, 0, 0, 0, 3}, []int{0, 1, 2, 3, 4}, [5]api.Word{}},
		{[]int{3}, [5]api.Word{0, 0, 0, 2, 0}, []int{0, 0, 0, 2, 0, 0, 0, 2, 0, 0, 0, 2, 0, 0, 0, 0, 0, 5}, []int{3, 0, 1, 2, 4}, [5]api.Word{}},
		{[]int{4, 2}, [5]api.Word{1, 0, 2, 0, 1}, []int{0, 0, 0, 0, 2, 0, 0, 0, 0, 0, 2, 3}, []int{4, 2, 1, 3}, [5]api.Word{1, 0, 0, 0, 1}},
		{[]int{0}, [5]api.Word{2, 2, 1, 3, 2}, []int{0, 0, 0, 0, 0, 0, 0, 3}, []int{0}, [5]api.Word{0, 0, 1, 3, 0}},
		{[]int{1}, [5]api.Word{1, 1, 1, 1, 1}, []int{0, 0, 0, 0, 3}, []int{1}, [5]api.Word{1, 1, 1, 1, 1}},
		{[]int{2, 0}, [5]api.Word{2, 1, 2, 2, 0}, []int{0, 0, 0, 0, 0, 0, 0, 0, 0, 0, 5}, []int{2, 0, 4}, [5]api.Word{0, 1, 0, 0, 0}},
	} {
		hue := func(i int) api.Word { return r.colours[i] }
		l := heap(some, r.list, always(8), always(9), hue)
		_, whats, _ := swept(some, l, r.list[len(r.list)-1])
		if !slices.Equal(whats, r.whats) {
			t.Fatalf("%+v: its steps are %v", r, whats)
		}
		h := mustSweep(t, some, l, r.list, api.Col{})
		if got, ok := pop.List(some, h.All()...); !ok || !slices.Equal(got, r.then) {
			t.Errorf("%+v: the list is %v", r, got)
		}
		for i := range some.Cells {
			if got := h.Arena.Load(colourAt(some, i)); got != r.is[i] {
				t.Errorf("%+v: the colour of %d is %d", r, i, got)
			}
		}
	}
}

// Sweeps one behind the other: what was whitened, and isn't shaded anew, is appended by the next one, and Tail leads on from one to the other.
func TestSweepsOneBehindTheOther(t *testing.T) {
	list := []int{6, 2}
	c := api.Config{Cells: 9, Muts: 2, Regs: 1}
	h := from(t, c, heap(c, list, mixedAt, always(5), unless(list, always(2), around(0, 2, 1, 2, 0)))...)
	x := tailed(api.Col{Line: 20}, 2)
	for k, after := range [][]int{{6, 2, 0, 4, 5}, {6, 2, 0, 4, 5, 1, 3, 8}, {6, 2, 0, 4, 5, 1, 3, 8}, {6, 2, 0, 4, 5, 1, 3, 8, 7}} {
		for steps := 0; x.Line != 1; steps++ {
			next, _, ok := sweep.Step(h, x)
			if !ok || steps > 4*c.Cells {
				t.Fatalf("behind %d steps it is %+v, %v", steps, next, ok)
			}
			x = next
		}
		got, ok := pop.List(c, h.All()...)
		if !ok || !slices.Equal(got, after) || x.Tail != after[len(after)-1] || x.Cycles != k+1 {
			t.Fatalf("behind %d sweeps the list is %v, %v, and it is %+v", k+1, got, ok, x)
		}
		for _, i := range got { // as marking does
			h.Arena.Store(colourAt(c, i), 2)
		}
		if k == 2 {
			h.Arena.Store(colourAt(c, 7), 0)
		}
		x.Line, x.C = 20, 0
	}
}

// With the layers 15 to 17, cycle by cycle: what neither roots nor cells have is appended, and nothing else is.
func TestCyclesByThemselves(t *testing.T) {
	h := from(t, some, place.First(some)...)
	m := h.Map
	x := tailed(roots.Begin(api.Col{}), 4)
	for k, r := range []struct {
		ahead func()
		list  []int
	}{
		{func() {}, []int{0, 1, 2, 3, 4}},
		{func() { h.Arena.Store(0, 5); h.Arena.Store(m.Reg(1, 1), 1) }, []int{2, 3, 4}}, // the register has the cell 0, whose cdr is 1
		{func() { h.Arena.Store(m.Cdr(0), 0) }, []int{2, 3, 4, 1}},
		{func() { h.Arena.Store(m.Reg(1, 1), 0) }, []int{2, 3, 4, 1, 0}},
		{func() { h.Arena.Store(0, 9) }, []int{4, 1, 0, 2, 3}}, // the cells 2 and 3 were let go
		{func() {}, []int{4, 1, 0, 2, 3}},
	} {
		r.ahead()
		x = mustCycle(t, h, x)
		got, ok := pop.List(some, h.All()...)
		if !ok || !slices.Equal(got, r.list) || x.Tail != r.list[len(r.list)-1] || x.Cycles != k+1 {
			t.Fatalf("behind %d cycles the list is %v, %v, not %v, and it is %+v", k+1, got, ok, r.list, x)
		}
	}
}

// mustCycle goes once round, by whichever layer has the line.
func mustCycle(t *testing.T, h *hand.Hand, x api.Col) api.Col {
	t.Helper()
	cycles := x.Cycles
	for range 1000 {
		next, ok := roots.Step(h, x)
		if !ok {
			next, ok = pass.Step(h, x)
		}
		if !ok {
			next, _, ok = bar.Step(h, x)
		}
		what := 0
		if !ok {
			next, what, ok = sweep.Step(h, x)
		}
		if !ok {
			t.Fatalf("no layer has the line of %+v", x)
		}
		if over := next.Cycles == cycles+1; over != (what >= 3) {
			t.Fatalf("behind %+v it is %+v, and what it was %d", x, next, what)
		}
		if x = next; x.Cycles > cycles {
			return x
		}
	}
	t.Fatalf("the cycle isn't over: %+v", x)
	return x
}

// Who takes cells off the list in the midst of a sweep, as many as it has but one, finds them in order, and behind them those that are appended.
func TestTakingWhileSweeping(t *testing.T) {
	for _, list := range [][]int{{3}, {5, 1}, {0, 8, 4}, {7, 6, 5, 4}} {
		for ahead := range 40 {
			c := api.Config{Cells: 9, Muts: 1, Regs: 4, Globs: 3}
			h := from(t, c, heap(c, list, mixedAt, around(words()...), unless(list, always(2), around(0, 2, 0, 1)))...)
			_, _, put := swept(c, h.All(), list[len(list)-1])
			full := slices.Concat(list, put)
			x := tailed(api.Col{Line: 20}, list[len(list)-1])
			var taken []int
			for n := 0; x.Line != 1; n++ {
				if n > 4*c.Cells {
					t.Fatalf("behind %d steps it is %+v", n, x)
				}
				if n >= ahead {
					taken = append(taken, takeAll(t, h)...)
				}
				x, _, _ = sweep.Step(h, x)
			}
			rest, ok := pop.List(c, h.All()...)
			if got := slices.Concat(taken, rest); !ok || !slices.Equal(got, full) {
				t.Fatalf("of %v were taken %v, and there are %v, %v", full, taken, rest, ok)
			}
		}
	}
}

// takeAll takes cells until it finds no more.
func takeAll(t *testing.T, h *hand.Hand) []int {
	t.Helper()
	var l []int
	for range 10 {
		x := api.Mut{Line: 34}
		for x.Line >= 34 && x.Line <= 36 {
			x, _, _ = pop.Step(h, x)
		}
		if x.Ret == api.RetFull {
			return l
		}
		l = append(l, int(x.H/2))
	}
	t.Fatalf("there were taken %v", l)
	return nil
}

// P1, and each answer at all arguments, held against the chapter's table.
func FuzzCalls(f *testing.F) {
	for line := 19; line <= 25; line++ {
		f.Add(2, line, 0, 0, uint64(0), uint64(0), 0)
		f.Add(3, line, 4, 1, uint64(2), uint64(3), 7)
		f.Add(9, line, math.MinInt, -1, uint64(1), uint64(math.MaxUint64), math.MaxInt)
		f.Add(4, line, math.MaxInt, 5, uint64(math.MaxUint64), uint64(1), math.MinInt)
		f.Add(64, line, 4096, math.MaxInt, uint64(2), uint64(0), -1)
	}
	f.Fuzz(func(t *testing.T, cells, line, i, tail int, colour, w uint64, cycles int) {
		c := api.Config{Cells: 2 + int(uint(cells)%64), Muts: 2, Regs: 3, Globs: 1}
		x := cycled(tailed(on(busy()[1], line, i), tail), cycles)
		mustRefuse(t, nil, x)
		if sweep.Holds(x, tail) != (tail == i && line >= 21 && line <= 23) || sweep.Holds(x, i) != (line >= 21 && line <= 23) {
			t.Fatalf("%+v holds %d: %v, and %d: %v", x, tail, sweep.Holds(x, tail), i, sweep.Holds(x, i))
		}
		l := mixed(c)
		for _, n := range []int{i, tail} {
			if isThere(c, n) {
				l[carAt(c, n)], l[cdrAt(c, n)], l[colourAt(c, n)] = api.Word(w), api.Word(w), api.Word(colour)
			}
		}
		mustBeOfTheTable(t, c, l, x)
		list := []int{int(uint(i) % uint(c.Cells))}
		if n := int(uint(tail) % uint(c.Cells)); n != list[0] {
			list = append(list, n)
		}
		hue := unless(list, around(2, 1, 3), around(api.Word(colour), 0, 1, 2, api.Word(w)))
		mustSweep(t, c, heap(c, list, always(api.Word(w)), mixedAt, hue), list, busy()[1])
	})
}

// mustBeOfTheTable does a step on any line, and holds it against the chapter's table.
func mustBeOfTheTable(t *testing.T, c api.Config, l []api.Word, x api.Col) {
	t.Helper()
	h := from(t, c, l...)
	h.Access = stray()
	if x.Line < 20 || x.Line > 24 {
		mustRefuse(t, h, x)
		mustHave(t, "on another line", h, stray(), l)
		return
	}
	var did api.Access
	want := l
	store := func(at func(c api.Config, i int) int, i int, w api.Word) {
		if isThere(c, i) {
			did, want = storing(at(c, i), w, l[at(c, i)]), with(l, at(c, i), w)
		}
	}
	var to api.Col
	what := 0
	switch x.Line {
	case 20:
		colour := api.Word(0)
		if isThere(c, x.C) {
			colour = l[colourAt(c, x.C)]
			did = loading(colourAt(c, x.C), colour)
		}
		to, what = looked(c, x, colour)
	case 21:
		store(carAt, x.C, 0)
		to = on(x, 22, x.C)
	case 22:
		store(cdrAt, x.C, 0)
		to = on(x, 23, x.C)
	case 23:
		store(cdrAt, x.Tail, cell(x.C))
		to, what = appended(c, x)
	case 24:
		store(colourAt, x.C, 0)
		to, what = behind(c, x)
	}
	mustStep(t, h, x, to, what, did, want)
}
