package pass_test

import (
	"fmt"
	"math"
	"slices"
	"testing"

	"mudlark/api"
	"mudlark/arena"
	"mudlark/hand"
	"mudlark/pass"
	"mudlark/place"
)

const last = api.Word(math.MaxUint64)

var (
	least = api.Config{Cells: 2, Muts: 1, Regs: 1, Globs: 0}
	three = api.Config{Cells: 3, Muts: 1, Regs: 1, Globs: 0}
	some  = api.Config{Cells: 5, Muts: 2, Regs: 2, Globs: 2}
	most  = api.Config{Cells: 4096, Muts: 63, Regs: 64, Globs: 64}
)

func small() []api.Config {
	return []api.Config{least, three, some, {Cells: 4, Muts: 3, Regs: 1, Globs: 0}, {Cells: 9, Muts: 1, Regs: 4, Globs: 3}}
}

func right() []api.Config {
	return append(small(), most, api.Config{Cells: 4096, Muts: 1, Regs: 1}, api.Config{Cells: 2, Muts: 63, Regs: 64, Globs: 64})
}

// wrong are configurations that aren't right, in one number or in all.
func wrong() []api.Config {
	l := []api.Config{{}}
	for _, n := range []int{-1, -2, -5, 5000, 1 << 32, 1<<32 + 2, 1 << 62, math.MinInt, math.MaxInt} {
		l = append(l, api.Config{Cells: n, Muts: n, Regs: n, Globs: n})
		for _, c := range []api.Config{least, some} {
			l = append(l,
				api.Config{Cells: n, Muts: c.Muts, Regs: c.Regs, Globs: c.Globs}, api.Config{Cells: c.Cells, Muts: n, Regs: c.Regs, Globs: c.Globs},
				api.Config{Cells: c.Cells, Muts: c.Muts, Regs: n, Globs: c.Globs}, api.Config{Cells: c.Cells, Muts: c.Muts, Regs: c.Regs, Globs: n})
		}
	}
	return append(l,
		api.Config{Cells: 0, Muts: 1, Regs: 1}, api.Config{Cells: 1, Muts: 1, Regs: 1}, api.Config{Cells: 4097, Muts: 1, Regs: 1},
		api.Config{Cells: 2, Muts: 0, Regs: 1}, api.Config{Cells: 2, Muts: 64, Regs: 1}, api.Config{Cells: 2, Muts: 1, Regs: 0},
		api.Config{Cells: 2, Muts: 1, Regs: 65}, api.Config{Cells: 2, Muts: 1, Regs: 1, Globs: 65})
}

// otherLines are lines of other layers, lines that there aren't, and the ends of int.
func otherLines() []int {
	l := []int{
		0, 1, 2, 20, 21, 22, 23, 24, 34, 80, 81, 90, 256 + 3, 256 + 9, 1 << 16, 1<<32 + 3, 1<<32 + 4, 1<<32 + 9,
		-1, -2, -3, -4, -9, -253, math.MinInt, math.MinInt + 3, math.MinInt + 4, math.MaxInt - 1, math.MaxInt,
	}
	for line := 10; line <= 18; line++ {
		l = append(l, line)
	}
	return l
}

func lines() []int {
	return []int{3, 4, 5, 6, 7, 8, 9}
}

// noCells are nil, atoms, and words that are neither an atom nor a cell.
func noCells() []api.Word {
	return []api.Word{
		0, 2, 4, 6, 34, 8190, 8192, 8194, 1 << 32, 1<<63 - 2, 1 << 63, last - 1,
		8193, 8195, 1<<16 + 1, 1<<32 + 1, 1<<32 + 3, 1<<63 - 1, 1<<63 + 1, 1<<63 + 3, last - 2, last,
	}
}

// inside are cells of a map: the first ones, one in the middle, and the last one.
func inside(c api.Config) []api.Word {
	return []api.Word{1, 3, cell(c.Cells / 2), cell(c.Cells - 1)}
}

// beyond are cells that only a greater map has: none, if there is no greater one.
func beyond(c api.Config) []api.Word {
	var l []api.Word
	for _, i := range []int{c.Cells, c.Cells + 1, 2*c.Cells + 1, 4094, 4095} {
		if i >= c.Cells && i < 4096 {
			l = append(l, cell(i))
		}
	}
	return l
}

// words are words of all sorts: cells of the map, cells of greater ones, and no cells.
func words(c api.Config) []api.Word {
	return slices.Concat(inside(c), beyond(c), noCells())
}

// colours are all colours, and words that are none.
func colours() []api.Word {
	return []api.Word{api.White, api.Grey, api.Black, 3, 4, 256, 257, 1 << 32, 1<<32 + 1, 1 << 63, last}
}

// there are numbers of cells: all of a small configuration; of others the ends, and some between.
func there(c api.Config) []int {
	if c.Cells > 64 {
		return []int{0, 1, 2, 63, 64, c.Cells / 2, c.Cells - 3, c.Cells - 2, c.Cells - 1}
	}
	return counted(c.Cells)
}

// notThere are numbers that no cell has, but the greatest int, of which there is no number that is 1 more.
// Some of them come round to small places, if they are multiplied by three.
func notThere(c api.Config) []int {
	n := c.Cells
	return []int{
		n, n + 1, n + 2, 2 * n, sizeOf(c), 4096, 5000, 1 << 16, 1 << 32, 1<<32 + 1, 1 << 62, math.MaxInt/3 + 1, math.MaxInt - 2, math.MaxInt - 1,
		-1, -2, -3, -n, -n - 1, -sizeOf(c), -1 << 32, 1 - 1<<32, -1 << 62, math.MinInt / 3, math.MinInt, math.MinInt + 1,
	}
}

func counted(n int) []int {
	var l []int
	for i := range n {
		l = append(l, i)
	}
	return l
}

// isCell tells what a cell is, as chapter 1 has it.
func isCell(w api.Word) bool {
	return w%2 == 1 && w/2 < 4096
}

func cell(i int) api.Word {
	return api.Word(2*i + 1)
}

// busy are collectors with nothing, with something in each field, and with the ends of their types there.
func busy() []api.Col {
	least, most := math.MinInt, math.MaxInt
	return []api.Col{
		{},
		{Line: 18, J: 1, C: 2, M: 3, A: 4, P: 5, Found: true, Tail: 6, Cycles: 7},
		{Line: 2, J: -1, C: -2, M: -3, A: 7, P: 1, Tail: -6, Cycles: -7},
		{Line: least, J: least, C: least, M: least, A: last, P: last, Found: true, Tail: least, Cycles: least},
		{Line: most, J: most, C: most, M: most, A: last - 1, P: 8191, Tail: most, Cycles: most},
	}
}

// on is a collector on a line, with a cell: all else is kept.
func on(x api.Col, line, c int) api.Col {
	x.Line, x.C = line, c
	return x
}

// holding is a collector that has loaded a word.
func holding(x api.Col, a api.Word) api.Col {
	x.A = a
	return x
}

// finding is a collector that has found a grey cell in this pass, or not.
func finding(x api.Col, found bool) api.Col {
	x.Found = found
	return x
}

// behind is a collector that is done with a cell.
func behind(c api.Config, x api.Col) api.Col {
	switch {
	case x.C < c.Cells && x.C+1 < c.Cells:
		return on(x, 4, x.C+1)
	case x.Found:
		return on(x, 3, x.C+1)
	}
	x.M = 0
	return on(x, 10, x.C+1)
}

// blackening is a collector behind the line 9.
func blackening(c api.Config, x api.Col) api.Col {
	x.A, x.Found = 0, true
	return behind(c, x)
}

func firstCell(c api.Config) int {
	return 5 + c.Muts + c.Globs + c.Muts*c.Regs
}

func sizeOf(c api.Config) int {
	return firstCell(c) + 3*c.Cells
}

// carAt, cdrAt and colourAt are places of a cell that there is, as chapter 4 has them.
func carAt(c api.Config, i int) int {
	return firstCell(c) + 3*i
}

func cdrAt(c api.Config, i int) int {
	return firstCell(c) + 3*i + 1
}

func colourAt(c api.Config, i int) int {
	return firstCell(c) + 3*i + 2
}

// mixed are the words of a memory, no two of which are alike, and none of which is nil, a cell or a colour: a word that is changed is seen.
func mixed(c api.Config) []api.Word {
	l := make([]api.Word, sizeOf(c))
	for at := range l {
		l[at] = api.Word(at+1) * 0x9e3779b97f4a7c15
	}
	return l
}

// filled are the words of a memory, all of which are one.
func filled(c api.Config, w api.Word) []api.Word {
	l := make([]api.Word, sizeOf(c))
	for at := range l {
		l[at] = w
	}
	return l
}

// with are words of which one is another one.
func with(l []api.Word, at int, x api.Word) []api.Word {
	l = slices.Clone(l)
	l[at] = x
	return l
}

func from(t *testing.T, c api.Config, l ...api.Word) *hand.Hand {
	t.Helper()
	h, e := hand.From(c, l...)
	if h == nil || e != api.OK {
		t.Fatalf("From(%v) of %d words = %v, %d", c, len(l), h, e)
	}
	return h
}

// mustHave holds the access and all words of a hand against what they must be.
func mustHave(t *testing.T, what string, h *hand.Hand, x api.Access, want []api.Word) {
	t.Helper()
	if h.Access != x {
		t.Fatalf("%s: the access is %+v, not %+v", what, h.Access, x)
	}
	if got := h.All(); !slices.Equal(got, want) {
		t.Fatalf("%s: all words are %v, not %v", what, got, want)
	}
}

// mustStep does a line, and holds its answer, the access and all words against what they must be.
func mustStep(t *testing.T, h *hand.Hand, x, want api.Col, did api.Access, words []api.Word) {
	t.Helper()
	c := h.Config
	got, ok := pass.Step(h, x)
	if !ok || got != want {
		t.Fatalf("%v: Step(%+v) = %+v, %v, not %+v", c, x, got, ok, want)
	}
	mustHave(t, fmt.Sprintf("%v: behind %+v", c, x), h, did, words)
	if h.Config != c {
		t.Fatalf("behind %+v the map is that of %v, not of %v", x, h.Config, c)
	}
}

// mustEnd does a line with the greatest int as its cell: 1 more is not below any number of cells.
// What C is then isn't asked: no int is 1 more.
func mustEnd(t *testing.T, h *hand.Hand, x, want api.Col, did api.Access, words []api.Word) {
	t.Helper()
	got, ok := pass.Step(h, x)
	want.C = got.C
	if !ok || got != want {
		t.Fatalf("%v: Step(%+v) = %+v, %v, not %+v", h.Config, x, got, ok, want)
	}
	mustHave(t, fmt.Sprintf("%v: behind %+v", h.Config, x), h, did, words)
}

// mustRefuse holds Step's answer on a line of another layer, or with a nil hand, against what it must be.
func mustRefuse(t *testing.T, h *hand.Hand, x api.Col) {
	t.Helper()
	if got, ok := pass.Step(h, x); ok || got != x {
		t.Fatalf("Step(%+v) = %+v, %v", x, got, ok)
	}
}

// The accesses of this layer's lines.
func loading(at int, old api.Word) api.Access {
	return api.Access{Kind: api.ALoad, At: at, Old: old}
}

func storing(at int, x, old api.Word) api.Access {
	return api.Access{Kind: api.AStore, At: at, X: x, Old: old}
}

func shading(at int, old api.Word) api.Access {
	return api.Access{Kind: api.ACas, At: at, X: api.White, Y: api.Grey, Old: old}
}

// stray is an access that no step does: what a step leaves of it is seen.
func stray() api.Access {
	return api.Access{Kind: 99, At: 98, X: 97, Y: 96, Old: 95}
}

// P16.1

// row is what one step of an example must be: where it leads, its access, and the word that is there then.
type row struct {
	to  api.Col
	did api.Access
	is  api.Word
}

// mustGo goes step by step, and holds each one's answer, its access and all words behind it against what they must be.
func mustGo(t *testing.T, h *hand.Hand, x api.Col, rows ...row) {
	t.Helper()
	l := h.All()
	for _, r := range rows {
		l = with(l, r.did.At, r.is)
		mustStep(t, h, x, r.to, r.did, l)
		x = r.to
	}
	mustRefuse(t, h, x)
	mustHave(t, "at the end", h, rows[len(rows)-1].did, l)
}

// At first, with the cell 0 Grey: the first pass shades all cells, one behind the other, and makes each Black; the second one finds none.
func TestExample(t *testing.T) {
	h, e := hand.New(three)
	if e != api.OK {
		t.Fatal(e)
	}
	h.Arena.Store(9, api.Grey)
	mustHave(t, "at first", h, api.Access{}, []api.Word{1, 0, 0, 0, 0, 0, 0, 0, 3, 1, 0, 5, 0, 0, 0, 0})
	mustGo(t, h, api.Col{Line: 3},
		row{api.Col{Line: 4}, storing(2, 0, 0), 0},
		row{api.Col{Line: 5}, loading(9, 1), 1},
		row{api.Col{Line: 7}, loading(7, 0), 0},
		row{api.Col{Line: 8, A: 3}, loading(8, 3), 3},
		row{api.Col{Line: 9, A: 3}, shading(12, 0), 1},
		row{api.Col{Line: 4, C: 1, Found: true}, storing(9, 2, 1), 2},
		row{api.Col{Line: 5, C: 1, Found: true}, loading(12, 1), 1},
		row{api.Col{Line: 7, C: 1, Found: true}, loading(10, 0), 0},
		row{api.Col{Line: 8, C: 1, A: 5, Found: true}, loading(11, 5), 5},
		row{api.Col{Line: 9, C: 1, A: 5, Found: true}, shading(15, 0), 1},
		row{api.Col{Line: 4, C: 2, Found: true}, storing(12, 2, 1), 2},
		row{api.Col{Line: 5, C: 2, Found: true}, loading(15, 1), 1},
		row{api.Col{Line: 7, C: 2, Found: true}, loading(13, 0), 0},
		row{api.Col{Line: 9, C: 2, Found: true}, loading(14, 0), 0},
		row{api.Col{Line: 3, C: 3, Found: true}, storing(15, 2, 1), 2},
		row{api.Col{Line: 4}, storing(2, 0, 0), 0},
		row{api.Col{Line: 4, C: 1}, loading(9, 2), 2},
		row{api.Col{Line: 4, C: 2}, loading(12, 2), 2},
		row{api.Col{Line: 10, C: 3}, loading(15, 2), 2})
}

// By hand: both the car and the cdr are cells, one of which is Black; dirty isn't 0; and all that the collector has beside it stays.
func TestExampleWithCars(t *testing.T) {
	h := from(t, least, 1, 0, 9, 0, 0, 0, 0, 4, 3, 2, 3, 1, 1)
	x := func(line, c int, a api.Word, found bool, m int) api.Col {
		return api.Col{Line: line, J: 4, C: c, M: m, A: a, P: 6, Found: found, Tail: 1, Cycles: 8}
	}
	mustGo(t, h, x(3, 7, 12, true, 5),
		row{x(4, 0, 12, false, 5), storing(2, 0, 9), 0},
		row{x(4, 1, 12, false, 5), loading(9, 2), 2},
		row{x(5, 1, 12, false, 5), loading(12, 1), 1},
		row{x(6, 1, 3, false, 5), loading(10, 3), 3},
		row{x(7, 1, 3, false, 5), shading(12, 1), 1},
		row{x(8, 1, 1, false, 5), loading(11, 1), 1},
		row{x(9, 1, 1, false, 5), shading(9, 2), 2},
		row{x(3, 2, 0, true, 5), storing(12, 2, 1), 2},
		row{x(4, 0, 0, false, 5), storing(2, 0, 0), 0},
		row{x(4, 1, 0, false, 5), loading(9, 2), 2},
		row{x(10, 2, 0, false, 0), loading(12, 2), 2})
}

// The line 3, with dirty 0 and not 0: no other word plays a part, and whatever C and Found were is over.
func TestBeginning(t *testing.T) {
	for _, c := range right() {
		for k, l := range [][]api.Word{mixed(c), filled(c, 0), filled(c, 1), filled(c, 3), filled(c, last), place.First(c)} {
			for _, dirty := range []api.Word{0, 1, 2, 3, 256, 1 << 32, 1 << 63, last} {
				ahead := with(l, 2, dirty)
				h := from(t, c, ahead...)
				h.Access = stray()
				b := on(busy()[k%len(busy())], 3, k)
				mustStep(t, h, b, finding(on(b, 4, 0), false), storing(2, 0, dirty), with(l, 2, 0))
			}
		}
	}
}

func TestBeginningKeepsTheRest(t *testing.T) {
	for _, b := range busy() {
		for _, i := range append(there(some), notThere(some)...) {
			for _, found := range []bool{false, true} {
				x := finding(on(b, 3, i), found)
				mustStep(t, from(t, some, mixed(some)...), x, finding(on(b, 4, 0), false), storing(2, 0, mixed(some)[2]), with(mixed(some), 2, 0))
			}
		}
	}
}

// The line 4 of each cell, with each colour, and with words that are none; with a grey cell found ahead, and not.
func TestLooking(t *testing.T) {
	for _, c := range right() {
		for k, i := range there(c) {
			for n, was := range colours() {
				l := with(mixed(c), colourAt(c, i), was)
				h := from(t, c, l...)
				for _, found := range []bool{false, true} {
					h.Access = stray()
					x := finding(on(busy()[(k+n)%len(busy())], 4, i), found)
					want := behind(c, x)
					if was == api.Grey {
						want = on(x, 5, i)
					}
					mustStep(t, h, x, want, loading(colourAt(c, i), was), l)
				}
			}
		}
	}
}

// By hand: each colour, of the cell ahead of the last one and of the last one.
func TestLookingByHand(t *testing.T) {
	for _, c := range []struct {
		was   api.Word
		found bool
		i     int
		want  api.Col
	}{
		{0, false, 0, api.Col{Line: 4, C: 1, M: 6, A: 8}},
		{1, false, 0, api.Col{Line: 5, C: 0, M: 6, A: 8}},
		{2, false, 0, api.Col{Line: 4, C: 1, M: 6, A: 8}},
		{3, false, 0, api.Col{Line: 4, C: 1, M: 6, A: 8}},
		{0, true, 0, api.Col{Line: 4, C: 1, M: 6, A: 8, Found: true}},
		{1, true, 0, api.Col{Line: 5, C: 0, M: 6, A: 8, Found: true}},
		{2, true, 0, api.Col{Line: 4, C: 1, M: 6, A: 8, Found: true}},
		{0, false, 1, api.Col{Line: 10, C: 2, A: 8}},
		{1, false, 1, api.Col{Line: 5, C: 1, M: 6, A: 8}},
		{2, false, 1, api.Col{Line: 10, C: 2, A: 8}},
		{last, false, 1, api.Col{Line: 10, C: 2, A: 8}},
		{0, true, 1, api.Col{Line: 3, C: 2, M: 6, A: 8, Found: true}},
		{1, true, 1, api.Col{Line: 5, C: 1, M: 6, A: 8, Found: true}},
		{2, true, 1, api.Col{Line: 3, C: 2, M: 6, A: 8, Found: true}},
		{1<<32 + 1, true, 1, api.Col{Line: 3, C: 2, M: 6, A: 8, Found: true}},
	} {
		at := 9 + 3*c.i
		l := with(mixed(least), at, c.was)
		mustStep(t, from(t, least, l...), api.Col{Line: 4, C: c.i, M: 6, A: 8, Found: c.found}, c.want, loading(at, c.was), l)
	}
}

// All that a collector may have beside it, at each of the ends of the line 4.
func TestLookingKeepsTheRest(t *testing.T) {
	for _, b := range busy() {
		for _, i := range there(some) {
			for _, found := range []bool{false, true} {
				for _, a := range []api.Word{b.A, 0, 1, 4, last} {
					x := holding(finding(on(b, 4, i), found), a)
					grey, black := with(filled(some, 3), colourAt(some, i), 1), with(filled(some, 1), colourAt(some, i), 2)
					mustStep(t, from(t, some, grey...), x, on(x, 5, i), loading(colourAt(some, i), 1), grey)
					mustStep(t, from(t, some, black...), x, behind(some, x), loading(colourAt(some, i), 2), black)
				}
			}
		}
	}
}

// Of a cell that isn't there no access is done, the one that was done ahead is gone, and what is loaded is no Grey.
func TestLookingAtNoCell(t *testing.T) {
	for _, c := range right() {
		for _, l := range [][]api.Word{mixed(c), filled(c, 0), filled(c, 1)} {
			h := from(t, c, l...)
			for k, i := range notThere(c) {
				for _, found := range []bool{false, true} {
					x := finding(on(busy()[k%len(busy())], 4, i), found)
					h.Load(api.AtGate)
					mustStep(t, h, x, behind(c, x), api.Access{}, l)
					h.Access = stray()
					mustStep(t, h, x, behind(c, x), api.Access{}, l)
				}
			}
		}
	}
}

// By hand: what is gone on with behind numbers that no cell has.
func TestLookingAtNoCellByHand(t *testing.T) {
	l := filled(some, 1)
	h := from(t, some, l...)
	for _, c := range []struct{ i, next, found, none int }{
		{math.MinInt, math.MinInt + 1, 4, 4}, {-3, -2, 4, 4}, {-2, -1, 4, 4}, {-1, 0, 4, 4}, {5, 6, 3, 10}, {6, 7, 3, 10}, {4096, 4097, 3, 10},
		{math.MaxInt - 1, math.MaxInt, 3, 10},
	} {
		m := 7
		if c.none == 10 {
			m = 0
		}
		mustStep(t, h, api.Col{Line: 4, C: c.i, M: 7, Found: true}, api.Col{Line: c.found, C: c.next, M: 7, Found: true}, api.Access{}, l)
		mustStep(t, h, api.Col{Line: 4, C: c.i, M: 7}, api.Col{Line: c.none, C: c.next, M: m}, api.Access{}, l)
	}
}

// The greatest int is no cell, and 1 more is not below any number of cells, so the pass is over.
func TestGreatestCell(t *testing.T) {
	for _, c := range right() {
		for _, l := range [][]api.Word{mixed(c), filled(c, 1)} {
			for _, b := range busy() {
				h := from(t, c, l...)
				h.Access = stray()
				x := on(b, 4, math.MaxInt)
				mustEnd(t, h, finding(x, true), finding(on(b, 3, 0), true), api.Access{}, l)
				mustEnd(t, h, finding(x, false), api.Col{Line: 10, J: b.J, A: b.A, P: b.P, Tail: b.Tail, Cycles: b.Cycles}, api.Access{}, l)
				h.Access = stray()
				mustEnd(t, h, on(b, 9, math.MaxInt), holding(finding(on(b, 3, 0), true), 0), api.Access{}, l)
			}
		}
	}
}

// part is a line that loads: where it loads from, and where it leads, if that is a cell or none.
type part struct {
	line, shade, skip int
	at                func(c api.Config, i int) int
}

func parts() []part {
	return []part{{5, 6, 7, carAt}, {7, 8, 9, cdrAt}}
}

// leads is where a line leads that loads a word.
func (p part) leads(x api.Col, w api.Word) api.Col {
	if isCell(w) {
		return holding(on(x, p.shade, x.C), w)
	}
	return holding(on(x, p.skip, x.C), w)
}

// The lines 5 and 7 of each cell, whatever word it has there: a cell is gone on with, the map's or not.
func TestLoading(t *testing.T) {
	for _, c := range right() {
		for _, p := range parts() {
			for k, i := range there(c) {
				for n, w := range words(c) {
					l := with(mixed(c), p.at(c, i), w)
					h := from(t, c, l...)
					h.Access = stray()
					x := on(busy()[(k+n)%len(busy())], p.line, i)
					mustStep(t, h, x, p.leads(x, w), loading(p.at(c, i), w), l)
				}
			}
		}
	}
}

// By hand: what is the least and the greatest cell, and what is next to these.
func TestLoadingByHand(t *testing.T) {
	for _, c := range []struct {
		w        api.Word
		car, cdr int
	}{
		{0, 7, 9}, {1, 6, 8}, {2, 7, 9}, {3, 6, 8}, {4, 7, 9}, {5, 6, 8}, {8189, 6, 8}, {8190, 7, 9}, {8191, 6, 8}, {8192, 7, 9}, {8193, 7, 9},
		{8195, 7, 9}, {1<<32 + 1, 7, 9}, {last - 1, 7, 9}, {last, 7, 9},
	} {
		car, cdr := with(mixed(least), 10, c.w), with(mixed(least), 11, c.w)
		mustStep(t, from(t, least, car...), api.Col{Line: 5, C: 1, A: 7}, api.Col{Line: c.car, C: 1, A: c.w}, loading(10, c.w), car)
		mustStep(t, from(t, least, cdr...), api.Col{Line: 7, C: 1, A: 7}, api.Col{Line: c.cdr, C: 1, A: c.w}, loading(11, c.w), cdr)
	}
}

// All that a collector may have beside it, with all that A may be ahead.
func TestLoadingKeepsTheRest(t *testing.T) {
	for _, b := range busy() {
		for _, p := range parts() {
			for _, i := range there(some) {
				for _, w := range words(some) {
					l := with(mixed(some), p.at(some, i), w)
					h := from(t, some, l...)
					for _, a := range []api.Word{b.A, 0, 1, 4, w, last} {
						for _, found := range []bool{false, true} {
							x := holding(finding(on(b, p.line, i), found), a)
							mustStep(t, h, x, p.leads(x, w), loading(p.at(some, i), w), l)
						}
					}
				}
			}
		}
	}
}

// All words are cells: each car and cdr is that of its own cell.
func TestLoadingAmongCells(t *testing.T) {
	for _, c := range small() {
		l := mixed(c)
		for at := range l {
			l[at] = cell(at)
		}
		h := from(t, c, l...)
		for _, p := range parts() {
			for _, i := range there(c) {
				at := p.at(c, i)
				x := api.Col{Line: p.line, J: 3, C: i, M: 4}
				mustStep(t, h, x, api.Col{Line: p.shade, J: 3, C: i, M: 4, A: cell(at)}, loading(at, cell(at)), l)
			}
		}
	}
}

// Of a C that is no cell of the map no access is done, the one that was done ahead is gone, and A is 0, as what is loaded.
func TestLoadingOfNoCell(t *testing.T) {
	for _, c := range right() {
		for _, l := range [][]api.Word{mixed(c), filled(c, 0), filled(c, 1)} {
			h := from(t, c, l...)
			for _, p := range parts() {
				for k, i := range append(notThere(c), math.MaxInt) {
					for _, a := range []api.Word{0, 1, 4, last} {
						x := holding(on(busy()[k%len(busy())], p.line, i), a)
						h.Load(api.AtGate)
						mustStep(t, h, x, holding(on(x, p.skip, i), 0), api.Access{}, l)
						h.Access = stray()
						mustStep(t, h, x, holding(on(x, p.skip, i), 0), api.Access{}, l)
					}
				}
			}
		}
	}
}

// The lines 6 and 8 of cells of the map, in each colour, and with words that are none.
func TestShading(t *testing.T) {
	for _, c := range right() {
		for k, w := range inside(c) {
			at := colourAt(c, int(w/2))
			for n, was := range colours() {
				l := with(mixed(c), at, was)
				is := was
				if was == api.White {
					is = api.Grey
				}
				for _, line := range []int{6, 8} {
					h := from(t, c, l...)
					h.Access = stray()
					x := busy()[(k+n)%len(busy())]
					x.Line, x.A = line, w
					mustStep(t, h, x, on(x, line+1, x.C), shading(at, was), with(l, at, is))
				}
			}
		}
	}
}

// By hand: the three colours, and words that are none.
func TestShadingByHand(t *testing.T) {
	for _, c := range []struct{ was, is api.Word }{{0, 1}, {1, 1}, {2, 2}, {3, 3}, {1 << 32, 1 << 32}, {last, last}} {
		l := with(filled(least, 0), 12, c.was)
		did := api.Access{Kind: api.ACas, At: 12, X: 0, Y: 1, Old: c.was}
		mustStep(t, from(t, least, l...), api.Col{Line: 6, A: 3, M: 8}, api.Col{Line: 7, A: 3, M: 8}, did, with(l, 12, c.is))
		mustStep(t, from(t, least, l...), api.Col{Line: 8, A: 3, M: 8}, api.Col{Line: 9, A: 3, M: 8}, did, with(l, 12, c.is))
	}
}

// Each cell by itself, where all colours are White: no other one is shaded, and what C is, and has, plays no part.
func TestShadingOfA(t *testing.T) {
	for _, c := range small() {
		for i := range c.Cells {
			for _, b := range busy() {
				for _, of := range append(append(there(c), notThere(c)...), math.MaxInt) {
					for _, line := range []int{6, 8} {
						x := holding(on(b, line, of), cell(i))
						mustStep(t, from(t, c, filled(c, 0)...), x, on(x, line+1, of), shading(colourAt(c, i), 0), with(filled(c, 0), colourAt(c, i), 1))
					}
				}
			}
		}
	}
}

// Of what is no cell of the map no access is done, the one that was done ahead is gone, and it goes on all the same.
func TestShadingOfNoCell(t *testing.T) {
	for _, c := range right() {
		for _, l := range [][]api.Word{mixed(c), filled(c, 0), filled(c, 1)} {
			h := from(t, c, l...)
			for k, a := range append(beyond(c), noCells()...) {
				for _, line := range []int{6, 8} {
					for _, i := range []int{-1, 0, c.Cells - 1, c.Cells} {
						x := holding(on(busy()[k%len(busy())], line, i), a)
						h.Load(api.AtGate)
						mustStep(t, h, x, on(x, line+1, i), api.Access{}, l)
						h.Access = stray()
						mustStep(t, h, x, on(x, line+1, i), api.Access{}, l)
					}
				}
			}
		}
	}
}

// The line 9 of each cell, whatever its colour was: for the last one, and those ahead of it.
func TestBlackening(t *testing.T) {
	for _, c := range right() {
		for k, i := range there(c) {
			at := colourAt(c, i)
			for n, was := range colours() {
				l := with(mixed(c), at, was)
				for _, found := range []bool{false, true} {
					h := from(t, c, l...)
					h.Access = stray()
					x := finding(on(busy()[(k+n)%len(busy())], 9, i), found)
					mustStep(t, h, x, blackening(c, x), storing(at, 2, was), with(l, at, 2))
				}
			}
		}
	}
}

func TestBlackeningByHand(t *testing.T) {
	l := filled(three, 1)
	for _, c := range []struct {
		i, line, at int
	}{{0, 4, 9}, {1, 4, 12}, {2, 3, 15}} {
		for _, found := range []bool{false, true} {
			x := api.Col{Line: 9, J: 4, C: c.i, M: 6, A: 8, P: 2, Found: found, Tail: 5, Cycles: 7}
			want := api.Col{Line: c.line, J: 4, C: c.i + 1, M: 6, P: 2, Found: true, Tail: 5, Cycles: 7}
			mustStep(t, from(t, three, l...), x, want, api.Access{Kind: api.AStore, At: c.at, X: 2, Old: 1}, with(l, c.at, 2))
		}
	}
}

func TestBlackeningKeepsTheRest(t *testing.T) {
	for _, b := range busy() {
		for _, i := range there(some) {
			for _, a := range words(some) {
				x := holding(on(b, 9, i), a)
				h := from(t, some, filled(some, 0)...)
				mustStep(t, h, x, blackening(some, x), storing(colourAt(some, i), 2, 0), with(filled(some, 0), colourAt(some, i), 2))
			}
		}
	}
}

// Of a C that is no cell of the map no access is done, the one that was done ahead is gone; a grey cell counts as found.
func TestBlackeningOfNoCell(t *testing.T) {
	for _, c := range right() {
		for _, l := range [][]api.Word{mixed(c), filled(c, 0), filled(c, 1)} {
			h := from(t, c, l...)
			for k, i := range notThere(c) {
				for _, a := range []api.Word{0, 1, last} {
					x := holding(on(busy()[k%len(busy())], 9, i), a)
					h.Load(api.AtGate)
					mustStep(t, h, x, blackening(c, x), api.Access{}, l)
					h.Access = stray()
					mustStep(t, h, x, blackening(c, x), api.Access{}, l)
				}
			}
		}
	}
}

// On other lines nothing is done, and the access of an earlier step stays as well.
func TestOtherLines(t *testing.T) {
	for _, l := range [][]api.Word{mixed(some), filled(some, 0), filled(some, 1), place.First(some)} {
		h := from(t, some, l...)
		for _, did := range []api.Access{{}, loading(0, 1), stray()} {
			h.Access = did
			for _, b := range busy() {
				for _, line := range otherLines() {
					for _, a := range []api.Word{b.A, 0, 1, 3} {
						for _, i := range []int{b.C, -1, 0, 4, 5} {
							mustRefuse(t, h, holding(on(b, line, i), a))
						}
					}
					mustHave(t, fmt.Sprintf("on the line %d", line), h, did, l)
				}
			}
		}
	}
}

func TestNilHand(t *testing.T) {
	for _, b := range busy() {
		for _, line := range append(otherLines(), lines()...) {
			for _, a := range words(some) {
				for _, i := range []int{b.C, -1, 0, 1, math.MaxInt} {
					mustRefuse(t, nil, holding(on(b, line, i), a))
				}
			}
		}
	}
}

// A hand that has no places can do no access: what is loaded is 0, and there are as many cells as its map has.
func TestHandsWithoutPlaces(t *testing.T) {
	for name, h := range map[string]*hand.Hand{
		"a zero hand": {},
		"no arena":    {Map: place.Map{Config: some}},
		"no words":    {Arena: arena.New()},
		"neither":     {Arena: arena.New(), Map: place.Map{Config: some}},
	} {
		must := func(x, want api.Col) {
			t.Helper()
			h.Access = stray()
			got, ok := pass.Step(h, x)
			if !ok || got != want || h.Access != (api.Access{}) {
				t.Errorf("%s: Step(%+v) = %+v, %v, not %+v, and the access %+v", name, x, got, ok, want, h.Access)
			}
		}
		for _, b := range busy() {
			for _, i := range []int{math.MinInt, -2, -1, 0, 1, 3, 4, 5, math.MaxInt - 1} {
				must(on(b, 3, i), finding(on(b, 4, 0), false))
				must(on(b, 4, i), behind(h.Config, on(b, 4, i)))
				must(on(b, 5, i), holding(on(b, 7, i), 0))
				must(holding(on(b, 6, i), 3), holding(on(b, 7, i), 3))
				must(on(b, 7, i), holding(on(b, 9, i), 0))
				must(holding(on(b, 8, i), 3), holding(on(b, 9, i), 3))
				must(on(b, 9, i), blackening(h.Config, on(b, 9, i)))
			}
			for _, line := range otherLines() {
				mustRefuse(t, h, on(b, line, 0))
			}
		}
	}
}

// Each step's access takes the place of the one that stood there.
func TestAccessIsThatOfTheStep(t *testing.T) {
	l := with(with(with(filled(some, 0), 2, 5), carAt(some, 1), 11), cdrAt(some, 1), 9)
	h := from(t, some, l...)
	l = with(l, 2, 0)
	mustStep(t, h, api.Col{Line: 3}, api.Col{Line: 4}, storing(2, 0, 5), l)
	mustStep(t, h, api.Col{Line: 4, C: -1}, api.Col{Line: 4}, api.Access{}, l)
	mustStep(t, h, api.Col{Line: 4}, api.Col{Line: 4, C: 1}, loading(colourAt(some, 0), 0), l)
	mustStep(t, h, api.Col{Line: 5, C: 5}, api.Col{Line: 7, C: 5}, api.Access{}, l)
	mustStep(t, h, api.Col{Line: 5, C: 1}, api.Col{Line: 6, C: 1, A: 11}, loading(carAt(some, 1), 11), l)
	mustStep(t, h, api.Col{Line: 6, C: 1, A: 11}, api.Col{Line: 7, C: 1, A: 11}, api.Access{}, l)
	mustStep(t, h, api.Col{Line: 7, C: 1}, api.Col{Line: 8, C: 1, A: 9}, loading(cdrAt(some, 1), 9), l)
	l = with(l, colourAt(some, 4), 1)
	mustStep(t, h, api.Col{Line: 8, C: 1, A: 9}, api.Col{Line: 9, C: 1, A: 9}, shading(colourAt(some, 4), 0), l)
	mustStep(t, h, api.Col{Line: 9, C: 9}, api.Col{Line: 3, C: 10, Found: true}, api.Access{}, l)
	l = with(l, colourAt(some, 1), 2)
	mustStep(t, h, api.Col{Line: 9, C: 1, A: 9}, api.Col{Line: 4, C: 2, Found: true}, storing(colourAt(some, 1), 2, 0), l)
}

// A mutator may do what it likes between the lines: what was loaded is shaded, what is there is blackened, and nothing is looked at again.
func TestOthersBetweenTheLines(t *testing.T) {
	for _, w := range []api.Word{0, 4, 1, 9, last} {
		for _, colour := range colours() {
			l := with(with(with(filled(some, 0), carAt(some, 2), 7), cdrAt(some, 2), 3), colourAt(some, 2), 1)
			h := from(t, some, l...)
			x := api.Col{Line: 4, C: 2}
			mustStep(t, h, x, on(x, 5, 2), loading(colourAt(some, 2), 1), l)
			h.Arena.Store(colourAt(some, 2), colour)
			l = with(l, colourAt(some, 2), colour)
			mustStep(t, h, on(x, 5, 2), holding(on(x, 6, 2), 7), loading(carAt(some, 2), 7), l)
			h.Arena.Store(carAt(some, 2), w)
			l = with(with(l, carAt(some, 2), w), colourAt(some, 3), 1)
			mustStep(t, h, holding(on(x, 6, 2), 7), holding(on(x, 7, 2), 7), shading(colourAt(some, 3), 0), l)
			mustStep(t, h, holding(on(x, 7, 2), 7), holding(on(x, 8, 2), 3), loading(cdrAt(some, 2), 3), l)
			h.Arena.Store(cdrAt(some, 2), w)
			l = with(with(l, cdrAt(some, 2), w), colourAt(some, 1), 1)
			mustStep(t, h, holding(on(x, 8, 2), 3), holding(on(x, 9, 2), 3), shading(colourAt(some, 1), 0), l)
			l = with(l, colourAt(some, 2), 2)
			mustStep(t, h, holding(on(x, 9, 2), 3), finding(on(x, 4, 3), true), storing(colourAt(some, 2), 2, colour), l)
		}
	}
}

// P16.2

// mustGreys holds Greys' answer against what it must be, and the words that were handed in against what they were.
func mustGreys(t *testing.T, c api.Config, l []api.Word, want ...int) {
	t.Helper()
	was := slices.Clone(l)
	if got := pass.Greys(c, l...); !slices.Equal(got, want) {
		t.Fatalf("Greys(%v, %v) = %v, not %v", c, l, got, want)
	}
	if !slices.Equal(l, was) {
		t.Fatalf("Greys(%v, %v) has made %v of its words", c, was, l)
	}
}

// coloured are words of which the cells have these colours.
func coloured(c api.Config, l []api.Word, colours ...api.Word) []api.Word {
	l = slices.Clone(l)
	for i, colour := range colours {
		l[colourAt(c, i)] = colour
	}
	return l
}

func TestGreysByHand(t *testing.T) {
	for _, c := range []struct {
		colours [5]api.Word
		want    []int
	}{
		{[5]api.Word{0, 0, 0, 0, 0}, nil},
		{[5]api.Word{1, 1, 1, 1, 1}, []int{0, 1, 2, 3, 4}},
		{[5]api.Word{2, 2, 2, 2, 2}, nil},
		{[5]api.Word{1, 0, 2, 0, 0}, []int{0}},
		{[5]api.Word{0, 0, 2, 0, 1}, []int{4}},
		{[5]api.Word{2, 1, 0, 1, 2}, []int{1, 3}},
		{[5]api.Word{1, 0, 0, 0, 1}, []int{0, 4}},
		{[5]api.Word{3, 257, 1, 1<<32 + 1, last}, []int{2}},
		{[5]api.Word{3, 4, 256, 1 << 32, last}, nil},
		{[5]api.Word{1<<63 + 1, 3, 5, 1<<16 + 1, 1<<8 + 1}, nil},
	} {
		for _, l := range [][]api.Word{mixed(some), filled(some, 0), filled(some, 1), filled(some, last), place.First(some)} {
			mustGreys(t, some, coloured(some, l, c.colours[:]...), c.want...)
		}
	}
}

// None, one, all but one, and all: what other words are plays no part.
func TestGreysOfAllConfigs(t *testing.T) {
	for _, c := range right() {
		mustGreys(t, c, place.First(c))
		mustGreys(t, c, mixed(c))
		mustGreys(t, c, filled(c, 0))
		mustGreys(t, c, filled(c, 2))
		mustGreys(t, c, filled(c, 1), counted(c.Cells)...)
		for _, i := range there(c) {
			mustGreys(t, c, with(mixed(c), colourAt(c, i), 1), i)
			mustGreys(t, c, with(mixed(c), colourAt(c, i), 0))
			mustGreys(t, c, with(filled(c, 1), colourAt(c, i), 2), slices.Delete(counted(c.Cells), i, i+1)...)
			mustGreys(t, c, with(with(filled(c, 0), carAt(c, i), 1), cdrAt(c, i), 1))
		}
	}
}

// All ways in which five cells may have these colours.
func TestGreysOfAllColours(t *testing.T) {
	hues := []api.Word{api.White, api.Grey, api.Black, 3}
	for n := range 4 * 4 * 4 * 4 * 4 {
		var colours []api.Word
		var want []int
		for i := range some.Cells {
			if n%4 == 1 {
				want = append(want, i)
			}
			colours = append(colours, hues[n%4])
			n /= 4
		}
		mustGreys(t, some, coloured(some, mixed(some), colours...), want...)
	}
}

// One word too few, one too many, and any other count.
func TestGreysOfOtherCounts(t *testing.T) {
	for _, c := range right() {
		l := filled(c, 1)
		for _, n := range []int{0, 1, 2, 3, 5, firstCell(c), sizeOf(c) / 2, sizeOf(c) - 3, sizeOf(c) - 2, sizeOf(c) - 1} {
			mustGreys(t, c, l[:n])
		}
		for _, n := range []int{1, 2, 3, 64, sizeOf(c)} {
			mustGreys(t, c, append(slices.Clone(l), filled(c, 1)[:min(n, len(l))]...))
		}
		mustGreys(t, c, nil)
		mustGreys(t, c, l, counted(c.Cells)...)
		if got := pass.Greys(c); len(got) != 0 {
			t.Errorf("Greys(%v) of no words = %v", c, got)
		}
	}
}

// Words of another memory that are as many: each map finds the colours where it has them.
func TestGreysOfOtherMemories(t *testing.T) {
	c, d := api.Config{Cells: 2, Muts: 1, Regs: 4}, three
	if sizeOf(c) != sizeOf(d) {
		t.Fatal("these have unlike counts of words")
	}
	l := with(filled(d, 0), colourAt(d, 0), 1)
	mustGreys(t, d, l, 0)
	mustGreys(t, c, l)
	for _, c := range right() {
		for _, d := range right() {
			if sizeOf(c) != sizeOf(d) {
				mustGreys(t, c, filled(d, 1))
			}
		}
	}
}

func TestGreysOfWrongConfigs(t *testing.T) {
	for _, c := range wrong() {
		for _, n := range []int{0, 1, 2, 4, 5, 10, 12, 13, 14, 16, 28} {
			l := slices.Repeat([]api.Word{1}, n)
			mustGreys(t, c, l)
		}
		mustGreys(t, c, nil)
	}
	// These have as many words as a map of such numbers would have.
	for _, c := range []api.Config{
		{Cells: 1, Muts: 1, Regs: 1}, {Cells: 4097, Muts: 1, Regs: 1}, {Cells: 0, Muts: 1, Regs: 1}, {Cells: 2, Muts: 0, Regs: 1},
		{Cells: 2, Muts: 64, Regs: 1}, {Cells: 2, Muts: 1, Regs: 0}, {Cells: 2, Muts: 1, Regs: 65}, {Cells: 2, Muts: 1, Regs: 1, Globs: 65},
		{Cells: 3, Muts: 1, Regs: 1, Globs: -1}, {Cells: 3, Muts: 1, Regs: -1}, {Cells: 4, Muts: -1, Regs: 1}, {Cells: -1, Muts: 3, Regs: 3},
	} {
		mustGreys(t, c, filled(c, 1))
	}
}

// What lies behind the words is neither read nor written, and an answer is new.
func TestGreysKeepsNothing(t *testing.T) {
	long := append(coloured(some, filled(some, 0), 0, 1, 0, 1, 1), filled(some, 1)...)
	was := slices.Clone(long)
	l := long[:sizeOf(some)]
	got := pass.Greys(some, l...)
	if !slices.Equal(got, []int{1, 3, 4}) || !slices.Equal(long, was) {
		t.Fatalf("Greys = %v, and the words are %v", got, long)
	}
	for i := range got {
		got[i] = 99
	}
	if got = append(got, 98); !slices.Equal(long, was) {
		t.Fatalf("writing over the answer has made %v of the words", long)
	}
	mustGreys(t, some, l, 1, 3, 4)
	got = pass.Greys(some, l...)
	for i := range l {
		l[i] = 7
	}
	if !slices.Equal(got, []int{1, 3, 4}) {
		t.Fatalf("writing over the words has made %v of the answer", got)
	}
	mustGreys(t, some, l)
	mustGreys(t, some, long[:sizeOf(some)-1])
}

// P16.3

// run is what passes came to: how many there were, and how many steps.
type run struct{ passes, steps int }

// expected is what passes must come to, as a plain list of cells has it.
func expected(c api.Config, l []api.Word) run {
	var r run
	l = slices.Clone(l)
	for found := true; found; r.passes++ {
		found = false
		r.steps += 1 + c.Cells
		for i := range c.Cells {
			if l[colourAt(c, i)] != api.Grey {
				continue
			}
			found = true
			r.steps += 3
			for _, w := range []api.Word{l[carAt(c, i)], l[cdrAt(c, i)]} {
				if !isCell(w) {
					continue
				}
				r.steps++
				if n := int(w / 2); n < c.Cells && l[colourAt(c, n)] == api.White {
					l[colourAt(c, n)] = api.Grey
				}
			}
			l[colourAt(c, i)] = api.Black
		}
	}
	return r
}

// reached are the words of a memory behind all passes, found by no passes, but along the cells: from Grey ones by way of White ones, all these are Black.
func reached(c api.Config, l []api.Word) []api.Word {
	l = with(l, 2, 0)
	var way []int
	for i := range c.Cells {
		if l[colourAt(c, i)] == api.Grey {
			way = append(way, i)
		}
	}
	for len(way) > 0 {
		i := way[len(way)-1]
		way = way[:len(way)-1]
		l[colourAt(c, i)] = api.Black
		for _, w := range []api.Word{l[carAt(c, i)], l[cdrAt(c, i)]} {
			if n := int(w / 2); isCell(w) && n < c.Cells && l[colourAt(c, n)] == api.White {
				way = append(way, n)
			}
		}
	}
	return l
}

// through does passes until the line 10, and looks at each step's access.
func through(t *testing.T, h *hand.Hand, b api.Col) run {
	t.Helper()
	c := h.Config
	var r run
	ahead := h.All()
	x := on(b, 3, b.C)
	a := b.A
	for x.Line != 10 {
		if x.Line == 3 {
			r.passes++
		}
		if x.Line == 9 {
			a = 0
		}
		// A pass has a line of its own, and each cell six at most.
		if r.passes > c.Cells+1 || r.steps > r.passes*(6*c.Cells+1) {
			t.Fatalf("%v: the passes of %v aren't over behind %d of them, and %d steps: %+v", c, ahead, r.passes, r.steps, x)
		}
		next, ok := pass.Step(h, x)
		if !ok {
			t.Fatalf("%v: no step is done of %+v", c, x)
		}
		mustBeOfALine(t, h, x)
		x = next
		r.steps++
	}
	want := api.Col{Line: 10, J: b.J, C: c.Cells, A: a, P: b.P, Tail: b.Tail, Cycles: b.Cycles}
	if x != want {
		t.Fatalf("%v: behind the passes of %v it is %+v, not %+v", c, ahead, x, want)
	}
	mustRefuse(t, h, x)
	return r
}

// mustBeOfALine holds the access of a step against what its line may do: no colour but White becomes Grey, none but Grey Black.
func mustBeOfALine(t *testing.T, h *hand.Hand, x api.Col) {
	t.Helper()
	did := h.Access
	isColour := did.At >= firstCell(h.Config) && (did.At-firstCell(h.Config))%3 == 2
	ok := false
	switch x.Line {
	case 3:
		ok = did == storing(2, 0, did.Old)
	case 4, 5, 7:
		ok = did.Kind == api.ALoad
	case 6, 8:
		ok = did == api.Access{} || did == shading(did.At, did.Old) && isColour
	case 9:
		ok = did == storing(did.At, api.Black, api.Grey) && isColour
	}
	if !ok {
		t.Fatalf("%v: the access of %+v is %+v", h.Config, x, did)
	}
}

// mustBeOver looks at the colours behind all passes, by the promise's own words.
func mustBeOver(t *testing.T, c api.Config, ahead, l []api.Word) {
	t.Helper()
	for i := range c.Cells {
		was, is := ahead[colourAt(c, i)], l[colourAt(c, i)]
		if is == api.Grey || was != is && (is != api.Black || was != api.Grey && was != api.White) {
			t.Fatalf("%v: the passes of %v make the cell %d of %d %d", c, ahead, i, was, is)
		}
		if is != api.Black || was == api.Black {
			continue
		}
		for _, w := range []api.Word{l[carAt(c, i)], l[cdrAt(c, i)]} {
			if n := int(w / 2); isCell(w) && n < c.Cells && l[colourAt(c, n)] == api.White {
				t.Fatalf("%v: behind the passes of %v the Black cell %d has the White cell %d", c, ahead, i, n)
			}
		}
	}
}

// mustPass does all passes twice, and holds how many they were, their steps and all words against what they must be.
func mustPass(t *testing.T, c api.Config, l []api.Word, b api.Col) {
	t.Helper()
	h := from(t, c, l...)
	if got, want := through(t, h, b), expected(c, l); got != want {
		t.Fatalf("%v: the passes and steps of %v are %v, not %v", c, l, got, want)
	}
	got := h.All()
	mustBeOver(t, c, l, got)
	if want := reached(c, l); !slices.Equal(got, want) {
		t.Fatalf("%v: behind the passes of %v all words are %v, not %v", c, l, got, want)
	}
	mustGreys(t, c, got)
	if again := through(t, h, b); again != (run{1, 1 + c.Cells}) {
		t.Fatalf("%v: the passes and steps of %v, done again, are %v", c, l, again)
	}
	if !slices.Equal(h.All(), got) {
		t.Fatalf("%v: passes done again make all words %v of %v", c, h.All(), got)
	}
}

// mustTake does all passes, and holds the counts against what they must be, too.
func mustTake(t *testing.T, c api.Config, l []api.Word, passes, steps int) {
	t.Helper()
	mustPass(t, c, l, api.Col{Tail: 1})
	if got := through(t, from(t, c, l...), api.Col{}); got != (run{passes, steps}) {
		t.Errorf("%v: the passes and steps of %v are %v, not %d and %d", c, l, got, passes, steps)
	}
}

// The example, in all configurations: two passes, whatever the collector has beside it.
func TestPassesAtFirst(t *testing.T) {
	for _, c := range right() {
		l := with(place.First(c), colourAt(c, 0), 1)
		for _, b := range busy() {
			mustPass(t, c, l, b)
		}
		// Each cell is looked at twice and has three steps of its own; all but the last one have their cdr shaded.
		mustTake(t, c, l, 2, 2+2*c.Cells+3*c.Cells+c.Cells-1)
		mustTake(t, c, place.First(c), 1, 1+c.Cells)
	}
}

// chained are cells, each of which has the one that is so many behind it as its car or cdr; the first one of these to be gone through is Grey.
func chained(c api.Config, first, step int, at func(c api.Config, i int) int) []api.Word {
	l := mixed(c)
	for i := range c.Cells {
		l[carAt(c, i)], l[cdrAt(c, i)], l[colourAt(c, i)] = 0, 4, 0
		if n := i + step; n >= 0 && n < c.Cells {
			l[at(c, i)] = cell(n)
		}
	}
	l[colourAt(c, first)] = 1
	return l
}

// Cells that have the one behind them take two passes; those that have the one ahead of them as many as there are cells, and 1: never more.
func TestPassesOfChains(t *testing.T) {
	for _, c := range append(small(), api.Config{Cells: 300, Muts: 2, Regs: 2}) {
		n := c.Cells
		for _, p := range parts() {
			mustTake(t, c, chained(c, 0, 1, p.at), 2, 2+2*n+3*n+n-1)
			mustTake(t, c, chained(c, n-1, -1, p.at), n+1, (n+1)*(n+1)+3*n+n-1)
			mustTake(t, c, chained(c, n-1, 1, p.at), 2, 2+2*n+3)
			mustTake(t, c, chained(c, 0, -1, p.at), 2, 2+2*n+3)
			mustTake(t, c, chained(c, 0, 0, p.at), 2, 2+2*n+4)
			mustTake(t, c, chained(c, n/2, 0, p.at), 2, 2+2*n+4)
			mustPass(t, c, chained(c, n/2, 1-n, p.at), api.Col{})
			mustPass(t, c, chained(c, 0, 2, p.at), api.Col{})
			mustPass(t, c, chained(c, n-1, -2, p.at), api.Col{})
		}
	}
}

// A Black cell isn't gone through, so what lies behind it stays White; so does what lies behind a word that is no colour.
func TestPassesStopAtOtherColours(t *testing.T) {
	for _, colour := range []api.Word{api.Black, 3, last} {
		l := chained(some, 0, 1, cdrAt)
		l[colourAt(some, 2)] = colour
		h := from(t, some, l...)
		through(t, h, api.Col{})
		want := with(coloured(some, l, 2, 2, colour, 0, 0), 2, 0)
		if got := h.All(); !slices.Equal(got, want) {
			t.Errorf("behind the passes all words are %v, not %v", got, want)
		}
	}
}

// By hand: five cells by their cars, cdrs and colours; how many passes and steps they take, and the colours then.
func TestPassesByHand(t *testing.T) {
	for _, c := range []struct {
		cars, cdrs, colours [5]api.Word
		passes, steps       int
		want                [5]api.Word
	}{
		{[5]api.Word{}, [5]api.Word{}, [5]api.Word{}, 1, 6, [5]api.Word{}},
		{[5]api.Word{}, [5]api.Word{}, [5]api.Word{2, 2, 2, 2, 2}, 1, 6, [5]api.Word{2, 2, 2, 2, 2}},
		{[5]api.Word{}, [5]api.Word{}, [5]api.Word{1, 1, 1, 1, 1}, 2, 27, [5]api.Word{2, 2, 2, 2, 2}},
		{[5]api.Word{3, 5, 7, 9, 1}, [5]api.Word{9, 1, 3, 5, 7}, [5]api.Word{1, 0, 0, 0, 0}, 2, 37, [5]api.Word{2, 2, 2, 2, 2}},
		{[5]api.Word{1, 1, 1, 1, 1}, [5]api.Word{9, 9, 9, 9, 9}, [5]api.Word{0, 0, 1, 0, 0}, 3, 33, [5]api.Word{2, 0, 2, 0, 2}},
		{[5]api.Word{11, 8191, 8193, 4, last}, [5]api.Word{0, 13, 0, 9, 2}, [5]api.Word{1, 1, 1, 1, 0}, 2, 31, [5]api.Word{2, 2, 2, 2, 2}},
		{[5]api.Word{5, 0, 1, 0, 0}, [5]api.Word{3, 0, 9, 0, 0}, [5]api.Word{1, 2, 0, 0, 3}, 2, 22, [5]api.Word{2, 2, 2, 0, 3}},
	} {
		l := mixed(some)
		for i := range some.Cells {
			l[carAt(some, i)], l[cdrAt(some, i)], l[colourAt(some, i)] = c.cars[i], c.cdrs[i], c.colours[i]
		}
		mustTake(t, some, l, c.passes, c.steps)
		h := from(t, some, l...)
		through(t, h, api.Col{})
		if got, want := h.All(), with(coloured(some, l, c.want[:]...), 2, 0); !slices.Equal(got, want) {
			t.Errorf("behind the passes of %v all words are %v, not %v", l, got, want)
		}
	}
}

// built are words of which the cars, cdrs and colours are told by rules.
func built(c api.Config, car, cdr, colour func(i int) api.Word) []api.Word {
	l := mixed(c)
	for i := range c.Cells {
		l[carAt(c, i)], l[cdrAt(c, i)], l[colourAt(c, i)] = car(i), cdr(i), colour(i)
	}
	return l
}

// Cells that have one another, themselves, all the same one, what is no cell, or nothing, in several mixtures of colours.
func TestPassesOfAllSorts(t *testing.T) {
	for _, c := range append(small(), api.Config{Cells: 64, Muts: 2, Regs: 3, Globs: 1}) {
		sorts := []func(i int) api.Word{
			func(i int) api.Word { return 0 },
			func(i int) api.Word { return cell(i) },
			func(i int) api.Word { return cell((i + 1) % c.Cells) },
			func(i int) api.Word { return cell((i + c.Cells - 1) % c.Cells) },
			func(i int) api.Word { return cell((7*i + 3) % c.Cells) },
			func(i int) api.Word { return cell(i * i % c.Cells) },
			func(i int) api.Word { return cell(i / 2) },
			func(i int) api.Word { return cell(c.Cells / 2) },
			func(i int) api.Word { return cell(c.Cells - 1 - i) },
			func(i int) api.Word { return words(c)[i%len(words(c))] },
			func(i int) api.Word { return cell(c.Cells + i) },
			func(i int) api.Word { return noCells()[i%len(noCells())] },
		}
		hues := []func(i int) api.Word{
			func(i int) api.Word { return []api.Word{api.Grey, 0, 0, 0}[min(i, 3)] },
			func(i int) api.Word { return api.Word(i % 3) },
			func(i int) api.Word { return []api.Word{0, 0, 0, 2, 0, 1, 0}[i%7] },
			func(i int) api.Word { return []api.Word{0, api.Grey}[i/(c.Cells-1)] },
			func(i int) api.Word { return colours()[i%len(colours())] },
			func(i int) api.Word { return api.Grey },
		}
		for k, car := range sorts {
			for n, cdr := range sorts {
				for m, hue := range hues {
					mustPass(t, c, built(c, car, cdr, hue), busy()[(k+n+m)%len(busy())])
				}
			}
		}
	}
}

// Many cells: with the cell from which all are reached in the middle, and with all of them Grey.
func TestPassesOfManyCells(t *testing.T) {
	one := func(at int) func(i int) api.Word {
		return func(i int) api.Word {
			if i == at {
				return api.Grey
			}
			return api.White
		}
	}
	n := most.Cells
	up := func(i int) api.Word { return cell(min(2*i+1, n-1)) }
	more := func(i int) api.Word { return cell(min(2*i+2, n-1)) }
	mustPass(t, most, built(most, up, more, one(0)), api.Col{})
	half := func(i int) api.Word { return cell(i / 2) }
	around := func(i int) api.Word { return cell((i + 1) % n) }
	mustPass(t, most, built(most, half, around, one(n/2)), api.Col{})
	mustTake(t, most, filled(most, 1), 2, 2+2*n+3*n+2*n)
}

// All memories of two cells with these words in cars and cdrs, and these colours.
func TestAllSmallMemories(t *testing.T) {
	of, hues := []api.Word{0, 1, 3, 5, 4, 8193}, []api.Word{api.White, api.Grey, api.Black, 3}
	for n := range 6 * 6 * 6 * 6 * 4 * 4 {
		l := mixed(least)
		for _, at := range []int{7, 8, 10, 11} {
			l[at] = of[n%6]
			n /= 6
		}
		for _, at := range []int{9, 12} {
			l[at] = hues[n%4]
			n /= 4
		}
		mustPass(t, least, l, api.Col{J: 1})
	}
}

// All memories of three cells that have one another or nothing, in all colours.
func TestAllMemoriesOfThree(t *testing.T) {
	for n := range 4 * 4 * 4 * 4 * 4 * 4 * 27 {
		l := mixed(three)
		for _, at := range []int{7, 8, 10, 11, 13, 14} {
			l[at] = []api.Word{0, 1, 3, 5}[n%4]
			n /= 4
		}
		for _, at := range []int{9, 12, 15} {
			l[at] = api.Word(n % 3)
			n /= 3
		}
		mustPass(t, three, l, api.Col{P: 7})
	}
}

// P1, and each answer at all arguments, held against the chapter's table.
func FuzzCalls(f *testing.F) {
	f.Add(2, 3, 0, false, uint64(0), uint64(0), 0)
	for line := 2; line <= 10; line++ {
		f.Add(3, line, 1, true, uint64(3), uint64(1), line)
		f.Add(3, line, 4, false, uint64(8191), uint64(0), 16)
		f.Add(9, line, math.MinInt, true, uint64(8193), uint64(2), -1)
		f.Add(4, line, math.MaxInt, false, uint64(math.MaxUint64), uint64(math.MaxUint64), math.MaxInt)
	}
	f.Fuzz(func(t *testing.T, cells, line, i int, found bool, w, colour uint64, count int) {
		c := api.Config{Cells: 2 + int(uint(cells)%64), Muts: 2, Regs: 3, Globs: 1}
		x := holding(finding(on(busy()[1], line, i), found), api.Word(w))
		mustRefuse(t, nil, x)
		l := mixed(c)
		if i >= 0 && i < c.Cells {
			l[carAt(c, i)], l[cdrAt(c, i)], l[colourAt(c, i)] = api.Word(w), api.Word(w), api.Word(colour)
		}
		if n := int(w / 2); isCell(api.Word(w)) && n < c.Cells {
			l[colourAt(c, n)] = api.Word(colour)
		}
		mustBeOfTheTable(t, c, l, x)
		pass.Greys(api.Config{Cells: cells, Muts: line, Regs: i, Globs: count}, l...)
		mustGreys(t, c, l[:int(uint(count)%uint(len(l)))])
		mustPass(t, c, with(l, 2, api.Word(w)), on(x, line, i))
	})
}

// mustBeOfTheTable does a step on any line, and holds it against the chapter's table.
func mustBeOfTheTable(t *testing.T, c api.Config, l []api.Word, x api.Col) {
	t.Helper()
	h := from(t, c, l...)
	if x.Line < 3 || x.Line > 9 {
		mustRefuse(t, h, x)
		mustHave(t, "on another line", h, api.Access{}, l)
		return
	}
	load := func(at func(c api.Config, i int) int) (api.Word, api.Access) {
		if x.C < 0 || x.C >= c.Cells {
			return 0, api.Access{}
		}
		return l[at(c, x.C)], loading(at(c, x.C), l[at(c, x.C)])
	}
	var to api.Col
	var did api.Access
	var w api.Word
	want := l
	switch x.Line {
	case 3:
		to, did, want = finding(on(x, 4, 0), false), storing(2, 0, l[2]), with(l, 2, 0)
	case 4:
		w, did = load(colourAt)
		to = behind(c, x)
		if w == api.Grey {
			to = on(x, 5, x.C)
		}
	case 5:
		w, did = load(carAt)
		to = parts()[0].leads(x, w)
	case 7:
		w, did = load(cdrAt)
		to = parts()[1].leads(x, w)
	case 6, 8:
		to = on(x, x.Line+1, x.C)
		if n := int(x.A / 2); isCell(x.A) && n < c.Cells {
			did = shading(colourAt(c, n), l[colourAt(c, n)])
			if did.Old == api.White {
				want = with(l, did.At, api.Grey)
			}
		}
	case 9:
		to = blackening(c, x)
		if x.C >= 0 && x.C < c.Cells {
			did = storing(colourAt(c, x.C), api.Black, l[colourAt(c, x.C)])
			want = with(l, did.At, api.Black)
		}
	}
	if x.C == math.MaxInt && (x.Line == 4 || x.Line == 9) {
		mustEnd(t, h, x, to, did, want)
		return
	}
	mustStep(t, h, x, to, did, want)
}
