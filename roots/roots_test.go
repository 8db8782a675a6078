package roots_test

import (
	"fmt"
	"math"
	"slices"
	"testing"

	"mudlark/api"
	"mudlark/arena"
	"mudlark/hand"
	"mudlark/place"
	"mudlark/roots"
)

const last = api.Word(math.MaxUint64)

var (
	least = api.Config{Cells: 2, Muts: 1, Regs: 1, Globs: 0}
	glob  = api.Config{Cells: 2, Muts: 1, Regs: 1, Globs: 1}
	some  = api.Config{Cells: 5, Muts: 2, Regs: 2, Globs: 2}
	most  = api.Config{Cells: 4096, Muts: 63, Regs: 64, Globs: 64}
)

func small() []api.Config {
	return []api.Config{least, glob, some, {Cells: 3, Muts: 3, Regs: 1, Globs: 0}, {Cells: 9, Muts: 1, Regs: 4, Globs: 3}}
}

func right() []api.Config {
	return append(small(), most, api.Config{Cells: 4096, Muts: 1, Regs: 1}, api.Config{Cells: 2, Muts: 63, Regs: 64, Globs: 64})
}

// otherLines are lines of other layers, lines that there aren't, and the ends of int.
func otherLines() []int {
	l := []int{
		0, 20, 21, 22, 23, 24, 34, 80, 81, 90, 101, 102, 128 + 1, 128 + 2, 256 + 1, 256 + 2, 1 << 16, 1<<32 + 1, 1<<32 + 2,
		-1, -2, -3, -255, -254, math.MinInt, math.MinInt + 1, math.MinInt + 2, math.MaxInt - 1, math.MaxInt,
	}
	for line := 3; line <= 18; line++ {
		l = append(l, line)
	}
	return l
}

// noCells are nil, atoms, and words that are neither an atom nor a cell.
func noCells() []api.Word {
	return []api.Word{
		0, 2, 4, 6, 34, 8190, 8192, 8194, 1 << 32, 1<<63 - 2, 1 << 63, last - 1,
		8193, 8195, 1<<16 + 1, 1<<32 + 1, 1<<32 + 3, 1<<63 - 1, 1<<63 + 1, 1<<63 + 3, last - 2, last,
	}
}

// inside are cells of a map: the first ones, one in the middle, and the last one.
func inside(c api.Config) []api.Word {
	return []api.Word{1, 3, cell(c.Cells / 2), cell(c.Cells - 1)}
}

// beyond are cells that only a greater map has: none, if there is no greater one.
func beyond(c api.Config) []api.Word {
	var l []api.Word
	for _, i := range []int{c.Cells, c.Cells + 1, 2*c.Cells + 1, 4094, 4095} {
		if i >= c.Cells && i < 4096 {
			l = append(l, cell(i))
		}
	}
	return l
}

// words are words of all sorts: cells of the map, cells of greater ones, and no cells.
func words(c api.Config) []api.Word {
	return slices.Concat(inside(c), beyond(c), noCells())
}

// colours are all colours, and words that are none.
func colours() []api.Word {
	return []api.Word{api.White, api.Grey, api.Black, 3, 4, 256, 1 << 32, 1<<32 + 1, 1 << 63, last}
}

// isCell tells what a cell is, as chapter 1 has it.
func isCell(w api.Word) bool {
	return w%2 == 1 && w/2 < 4096
}

func cell(i int) api.Word {
	return api.Word(2*i + 1)
}

// busy are collectors with nothing, with something in each field, and with the ends of their types there.
func busy() []api.Col {
	least, most := math.MinInt, math.MaxInt
	return []api.Col{
		{},
		{Line: 18, J: 1, C: 2, M: 3, A: 4, P: 5, Found: true, Tail: 6, Cycles: 7},
		{Line: 2, J: -1, C: -2, M: -3, A: 7, P: 1, Tail: -6, Cycles: -7},
		{Line: least, J: least, C: least, M: least, A: last, P: last, Found: true, Tail: least, Cycles: least},
		{Line: most, J: most, C: most, M: most, A: last - 1, P: 8191, Tail: most, Cycles: most},
	}
}

// on is a collector on a line, with a root and a cell to be shaded: all else is kept.
func on(x api.Col, line, j int, p api.Word) api.Col {
	x.Line, x.J, x.P = line, j, p
	return x
}

// behind is a collector that is done with a root: it goes on with the next one, or on the line 3 behind the last one.
func behind(c api.Config, x api.Col) api.Col {
	if x.J+1 < rootsOf(c) {
		return on(x, 1, x.J+1, 0)
	}
	return on(x, 3, x.J+1, 0)
}

func rootsOf(c api.Config) int {
	return 1 + c.Globs + c.Muts*c.Regs
}

func firstCell(c api.Config) int {
	return 5 + c.Muts + c.Globs + c.Muts*c.Regs
}

func sizeOf(c api.Config) int {
	return firstCell(c) + 3*c.Cells
}

// rootAt is the place of a root that there is, as chapter 4 has it.
func rootAt(c api.Config, j int) int {
	if j == 0 {
		return 0
	}
	return 5 + c.Muts + j - 1
}

// colourAt is the place of a cell's colour, as chapter 4 has it.
func colourAt(c api.Config, i int) int {
	return firstCell(c) + 3*i + 2
}

// there are numbers of roots: all of a small configuration; of others the ends of each row, and some between.
func there(c api.Config) []int {
	n := rootsOf(c)
	if n > 64 {
		return []int{0, 1, 2, c.Globs - 1, c.Globs, c.Globs + 1, c.Globs + 2, 63, 64, 65, n / 2, n - 3, n - 2, n - 1}
	}
	var l []int
	for j := range n {
		l = append(l, j)
	}
	return l
}

// notThere are numbers that no root has, but the greatest int, of which there is no number that is 1 more.
func notThere(c api.Config) []int {
	n := rootsOf(c)
	return []int{
		n, n + 1, n + 2, 2 * n, sizeOf(c), 5000, 1 << 16, 1 << 32, 1<<32 + 1, 1 << 62, math.MaxInt - 2, math.MaxInt - 1,
		-1, -2, -3, -n, -n - 1, -sizeOf(c), -1 << 32, 1 - 1<<32, -1 << 62, math.MinInt, math.MinInt + 1,
	}
}

// mixed are the words of a memory, no two of which are alike, and none of which is nil, a cell or a colour: a word that is changed is seen.
func mixed(c api.Config) []api.Word {
	l := make([]api.Word, sizeOf(c))
	for at := range l {
		l[at] = api.Word(at+1) * 0x9e3779b97f4a7c15
	}
	return l
}

// filled are the words of a memory, all of which are one.
func filled(c api.Config, w api.Word) []api.Word {
	l := make([]api.Word, sizeOf(c))
	for at := range l {
		l[at] = w
	}
	return l
}

// with are words of which one is another one.
func with(l []api.Word, at int, x api.Word) []api.Word {
	l = slices.Clone(l)
	l[at] = x
	return l
}

func from(t *testing.T, c api.Config, l ...api.Word) *hand.Hand {
	t.Helper()
	h, e := hand.From(c, l...)
	if h == nil || e != api.OK {
		t.Fatalf("From(%v) of %d words = %v, %d", c, len(l), h, e)
	}
	return h
}

// mustHave holds the access and all words of a hand against what they must be.
func mustHave(t *testing.T, what string, h *hand.Hand, x api.Access, want []api.Word) {
	t.Helper()
	if h.Access != x {
		t.Fatalf("%s: the access is %+v, not %+v", what, h.Access, x)
	}
	if got := h.All(); !slices.Equal(got, want) {
		t.Fatalf("%s: all words are %v, not %v", what, got, want)
	}
}

// mustStep does a line, and holds its answer, the access and all words against what they must be.
func mustStep(t *testing.T, h *hand.Hand, x, want api.Col, did api.Access, words []api.Word) {
	t.Helper()
	c := h.Config
	got, ok := roots.Step(h, x)
	if !ok || got != want {
		t.Fatalf("%v: Step(%+v) = %+v, %v, not %+v", c, x, got, ok, want)
	}
	mustHave(t, fmt.Sprintf("%v: behind %+v", c, x), h, did, words)
	if h.Config != c {
		t.Fatalf("behind %+v the map is that of %v, not of %v", x, h.Config, c)
	}
}

// mustRefuse holds Step's answer on a line of another layer, or with a nil hand, against what it must be.
func mustRefuse(t *testing.T, h *hand.Hand, x api.Col) {
	t.Helper()
	if got, ok := roots.Step(h, x); ok || got != x {
		t.Fatalf("Step(%+v) = %+v, %v", x, got, ok)
	}
}

// loading is the access of the line 1, and shading that of the line 2.
func loading(at int, old api.Word) api.Access {
	return api.Access{Kind: api.ALoad, At: at, Old: old}
}

func shading(at int, old api.Word) api.Access {
	return api.Access{Kind: api.ACas, At: at, X: api.White, Y: api.Grey, Old: old}
}

// stray is an access that no step does: what a step leaves of it is seen.
func stray() api.Access {
	return api.Access{Kind: 99, At: 98, X: 97, Y: 96, Old: 95}
}

// P15.1

// At first: line 1, line 2 of the cell 0, which is Grey then; line 1 with J 1.
func TestExample(t *testing.T) {
	h, e := hand.New(least)
	if e != api.OK {
		t.Fatal(e)
	}
	l := []api.Word{1, 0, 0, 0, 0, 0, 0, 0, 3, 0, 0, 0, 0}
	mustHave(t, "at first", h, api.Access{}, l)
	x := roots.Begin(api.Col{Tail: 1})
	if x != (api.Col{Line: 1, Tail: 1}) {
		t.Fatalf("it begins at %+v", x)
	}
	mustStep(t, h, x, api.Col{Line: 2, P: 1, Tail: 1}, api.Access{Kind: api.ALoad, At: 0, Old: 1}, l)
	l[9] = 1
	mustStep(t, h, api.Col{Line: 2, P: 1, Tail: 1}, api.Col{Line: 1, J: 1, Tail: 1}, api.Access{Kind: api.ACas, At: 9, X: 0, Y: 1}, l)
	mustStep(t, h, api.Col{Line: 1, J: 1, Tail: 1}, api.Col{Line: 3, J: 2, Tail: 1}, api.Access{Kind: api.ALoad, At: 6}, l)
	mustRefuse(t, h, api.Col{Line: 3, J: 2, Tail: 1})
}

// The same by hand with a global and a register, of which the one is an atom, and the other one the cell 1.
func TestExampleWithMoreRoots(t *testing.T) {
	h := from(t, glob, 1, 0, 0, 0, 0, 0, 12, 3, 0, 3, 2, 0, 0, 0)
	l := h.All()
	x := api.Col{Line: 1, C: 5, A: 9, Found: true, Cycles: 4}
	for _, s := range []struct {
		line, j int
		p       api.Word
		did     api.Access
		at      int
		is      api.Word
	}{
		{2, 0, 1, api.Access{Kind: api.ALoad, At: 0, Old: 1}, 0, 1},
		{1, 1, 0, api.Access{Kind: api.ACas, At: 10, X: 0, Y: 1, Old: 2}, 10, 2},
		{1, 2, 0, api.Access{Kind: api.ALoad, At: 6, Old: 12}, 6, 12},
		{2, 2, 3, api.Access{Kind: api.ALoad, At: 7, Old: 3}, 7, 3},
		{3, 3, 0, api.Access{Kind: api.ACas, At: 13, X: 0, Y: 1, Old: 0}, 13, 1},
	} {
		want := api.Col{Line: s.line, J: s.j, P: s.p, C: 5, A: 9, Found: true, Cycles: 4}
		l = with(l, s.at, s.is)
		mustStep(t, h, x, want, s.did, l)
		x = want
	}
	mustRefuse(t, h, x)
}

// The line 1 of each root, whatever word it is: a cell is gone on with, the map's or not.
func TestLoading(t *testing.T) {
	for _, c := range right() {
		for i, j := range there(c) {
			at := rootAt(c, j)
			for k, w := range words(c) {
				l := with(mixed(c), at, w)
				h := from(t, c, l...)
				h.Access = stray()
				x := on(busy()[(i+k)%len(busy())], 1, j, 9)
				if isCell(w) {
					mustStep(t, h, x, on(x, 2, j, w), loading(at, w), l)
				} else {
					mustStep(t, h, x, behind(c, x), loading(at, w), l)
				}
			}
		}
	}
}

// All that a collector may have beside it, with all that P may be ahead, and each of the ends of the line 1.
func TestLoadingKeepsTheRest(t *testing.T) {
	for _, b := range busy() {
		for _, j := range there(some) {
			for _, w := range words(some) {
				l := with(mixed(some), rootAt(some, j), w)
				h := from(t, some, l...)
				for _, p := range []api.Word{b.P, 0, 1, 4, w, last} {
					x := on(b, 1, j, p)
					if isCell(w) {
						mustStep(t, h, x, on(b, 2, j, w), loading(rootAt(some, j), w), l)
					} else {
						mustStep(t, h, x, behind(some, x), loading(rootAt(some, j), w), l)
					}
				}
			}
		}
	}
}

// By hand: what is the least and the greatest cell, and what is next to these; of a root ahead of the last one, and of that.
func TestLoadingByHand(t *testing.T) {
	for _, c := range []struct {
		root     api.Word
		first, p int
		final    int
	}{
		{0, 1, 0, 3}, {1, 2, 1, 2}, {2, 1, 0, 3}, {3, 2, 3, 2}, {4, 1, 0, 3}, {5, 2, 5, 2}, {8189, 2, 8189, 2}, {8190, 1, 0, 3},
		{8191, 2, 8191, 2}, {8192, 1, 0, 3}, {8193, 1, 0, 3}, {8195, 1, 0, 3}, {1<<32 + 1, 1, 0, 3}, {last, 1, 0, 3},
	} {
		next := 0
		if c.p == 0 {
			next = 1
		}
		l := with(with(mixed(least), 0, c.root), 6, c.root)
		h := from(t, least, l...)
		mustStep(t, h, api.Col{Line: 1, P: 7}, api.Col{Line: c.first, J: next, P: api.Word(c.p)}, api.Access{Kind: api.ALoad, At: 0, Old: c.root}, l)
		mustStep(t, h, api.Col{Line: 1, J: 1, P: 7}, api.Col{Line: c.final, J: 1 + next, P: api.Word(c.p)}, api.Access{Kind: api.ALoad, At: 6, Old: c.root}, l)
	}
}

// All words are cells: each root is the place of its own number, and no in, gate or cell is taken for one.
func TestLoadingAmongCells(t *testing.T) {
	for _, c := range small() {
		l := mixed(c)
		for at := range l {
			l[at] = cell(at)
		}
		h := from(t, c, l...)
		for _, j := range there(c) {
			at := rootAt(c, j)
			x := api.Col{Line: 1, J: j, C: 3, M: 4}
			mustStep(t, h, x, on(x, 2, j, cell(at)), loading(at, cell(at)), l)
		}
	}
}

// Of a root that isn't there no access is done, the one that was done ahead is gone, and P is 0, as what is loaded.
func TestLoadingOfNoRoot(t *testing.T) {
	for _, c := range right() {
		for _, l := range [][]api.Word{mixed(c), filled(c, 0), filled(c, 1)} {
			h := from(t, c, l...)
			for k, j := range notThere(c) {
				for _, p := range []api.Word{0, 1, 4, last} {
					x := on(busy()[k%len(busy())], 1, j, p)
					h.Load(api.AtGate)
					mustStep(t, h, x, behind(c, x), api.Access{}, l)
					h.Access = stray()
					mustStep(t, h, x, behind(c, x), api.Access{}, l)
				}
			}
		}
	}
}

// By hand: which roots are gone on with behind numbers that none has.
func TestLoadingOfNoRootByHand(t *testing.T) {
	l := filled(some, 1)
	h := from(t, some, l...)
	for _, c := range []struct{ j, next, line int }{
		{math.MinInt, math.MinInt + 1, 1}, {-3, -2, 1}, {-2, -1, 1}, {-1, 0, 1}, {7, 8, 3}, {8, 9, 3}, {math.MaxInt - 1, math.MaxInt, 3},
	} {
		mustStep(t, h, api.Col{Line: 1, J: c.j, P: 3}, api.Col{Line: c.line, J: c.next}, api.Access{}, l)
	}
}

// mustEnd does a line with the greatest int as its root: 1 more is not below any number of roots.
// What J is then isn't asked: no int is 1 more.
func mustEnd(t *testing.T, h *hand.Hand, x api.Col, did api.Access, words []api.Word) {
	t.Helper()
	got, ok := roots.Step(h, x)
	if want := on(x, 3, got.J, 0); !ok || got != want {
		t.Fatalf("Step(%+v) = %+v, %v, not %+v", x, got, ok, want)
	}
	mustHave(t, fmt.Sprintf("behind %+v", x), h, did, words)
}

func TestGreatestRoot(t *testing.T) {
	for _, c := range right() {
		white := filled(c, 1)
		white[colourAt(c, 1)] = api.White
		for _, b := range busy() {
			h := from(t, c, white...)
			h.Access = stray()
			mustEnd(t, h, on(b, 1, math.MaxInt, 3), api.Access{}, white)
			mustEnd(t, h, on(b, 2, math.MaxInt, 3), shading(colourAt(c, 1), api.White), with(white, colourAt(c, 1), api.Grey))
			mustEnd(t, h, on(b, 2, math.MaxInt, 4), api.Access{}, with(white, colourAt(c, 1), api.Grey))
		}
	}
}

// The line 2 of cells of the map, in each colour, and with words that are none: ahead of the last root, and with the last one.
func TestShading(t *testing.T) {
	for _, c := range right() {
		for i, w := range inside(c) {
			at := colourAt(c, int(w/2))
			for k, was := range colours() {
				l := with(mixed(c), at, was)
				for n, j := range []int{0, 1, rootsOf(c) - 2, rootsOf(c) - 1} {
					h := from(t, c, l...)
					h.Access = stray()
					x := on(busy()[(i+k+n)%len(busy())], 2, j, w)
					if was == api.White {
						mustStep(t, h, x, behind(c, x), shading(at, was), with(l, at, api.Grey))
					} else {
						mustStep(t, h, x, behind(c, x), shading(at, was), l)
					}
				}
			}
		}
	}
}

// By hand: the three colours, with a root ahead of the last one, and with the last one.
func TestShadingByHand(t *testing.T) {
	for _, c := range []struct{ was, is api.Word }{{0, 1}, {1, 1}, {2, 2}, {3, 3}, {last, last}} {
		l := with(filled(least, 0), 12, c.was)
		did := api.Access{Kind: api.ACas, At: 12, X: 0, Y: 1, Old: c.was}
		mustStep(t, from(t, least, l...), api.Col{Line: 2, P: 3, M: 8}, api.Col{Line: 1, J: 1, M: 8}, did, with(l, 12, c.is))
		mustStep(t, from(t, least, l...), api.Col{Line: 2, J: 1, P: 3, M: 8}, api.Col{Line: 3, J: 2, M: 8}, did, with(l, 12, c.is))
	}
}

// Any number of a root, there or not, with all that a collector may have beside it.
func TestShadingKeepsTheRest(t *testing.T) {
	at := colourAt(some, 2)
	white := with(mixed(some), at, api.White)
	black := with(mixed(some), at, api.Black)
	for _, b := range busy() {
		for _, j := range append(there(some), notThere(some)...) {
			x := on(b, 2, j, 5)
			mustStep(t, from(t, some, white...), x, behind(some, x), shading(at, api.White), with(white, at, api.Grey))
			mustStep(t, from(t, some, black...), x, behind(some, x), shading(at, api.Black), black)
		}
	}
}

// Each cell by itself, where all colours are White: no other one is shaded, and what the root is by then plays no part.
func TestShadingOfP(t *testing.T) {
	for _, c := range small() {
		for i := range c.Cells {
			for _, j := range there(c) {
				for _, root := range []api.Word{0, 1, 3, cell(c.Cells - 1), last} {
					l := with(filled(c, 0), rootAt(c, j), root)
					x := api.Col{Line: 2, J: j, P: cell(i)}
					mustStep(t, from(t, c, l...), x, behind(c, x), shading(colourAt(c, i), 0), with(l, colourAt(c, i), 1))
				}
			}
		}
	}
}

// Of what is no cell of the map no access is done, the one that was done ahead is gone, and it goes on all the same.
func TestShadingOfNoCell(t *testing.T) {
	for _, c := range right() {
		for _, l := range [][]api.Word{mixed(c), filled(c, 0), filled(c, 1)} {
			h := from(t, c, l...)
			for k, p := range append(beyond(c), noCells()...) {
				for _, j := range []int{-1, 0, rootsOf(c) - 2, rootsOf(c) - 1, rootsOf(c)} {
					x := on(busy()[k%len(busy())], 2, j, p)
					h.Load(api.AtGate)
					mustStep(t, h, x, behind(c, x), api.Access{}, l)
					h.Access = stray()
					mustStep(t, h, x, behind(c, x), api.Access{}, l)
				}
			}
		}
	}
}

// On other lines nothing is done, and the access of an earlier step stays as well.
func TestOtherLines(t *testing.T) {
	for _, l := range [][]api.Word{mixed(some), filled(some, 0), filled(some, 1), place.First(some)} {
		h := from(t, some, l...)
		for _, did := range []api.Access{{}, loading(0, 1), stray()} {
			h.Access = did
			for _, b := range busy() {
				for _, line := range otherLines() {
					for _, p := range []api.Word{b.P, 0, 1, 3} {
						for _, j := range []int{b.J, 0, 6, 7} {
							mustRefuse(t, h, on(b, line, j, p))
						}
					}
					mustHave(t, fmt.Sprintf("on the line %d", line), h, did, l)
				}
			}
		}
	}
}

func TestNilHand(t *testing.T) {
	for _, b := range busy() {
		for _, line := range append(otherLines(), 1, 2) {
			for _, p := range words(some) {
				for _, j := range []int{b.J, 0, 1, math.MaxInt} {
					mustRefuse(t, nil, on(b, line, j, p))
				}
			}
		}
	}
}

// A hand that has no places can do no access: what is loaded is 0, and there are as many roots as its map has.
func TestHandsWithoutPlaces(t *testing.T) {
	for name, h := range map[string]*hand.Hand{
		"a zero hand":   {},
		"no arena":      {Map: place.Map{Config: some}},
		"no words":      {Arena: arena.New()},
		"neither":       {Arena: arena.New(), Map: place.Map{Config: some}},
		"no map":        {Arena: arena.New(1, 1, 1, 1, 1, 1, 1, 1, 1, 1)},
		"no right map":  {Arena: arena.New(1, 1, 1, 1, 1, 1, 1, 1, 1, 1), Map: place.Map{Config: api.Config{Cells: 1, Muts: 1, Regs: 1}}},
		"too great one": {Map: place.Map{Config: api.Config{Cells: math.MaxInt, Muts: math.MaxInt, Regs: math.MaxInt, Globs: math.MaxInt}}},
	} {
		count := 0
		if h.Config == some {
			count = 7
		}
		for _, b := range busy() {
			for _, line := range []int{1, 2} {
				for _, j := range []int{math.MinInt, -2, -1, 0, 1, 5, 6, 7, math.MaxInt - 1} {
					want := on(b, 3, j+1, 0)
					if j+1 < count {
						want.Line = 1
					}
					h.Access = stray()
					got, ok := roots.Step(h, on(b, line, j, 3))
					if !ok || got != want || h.Access != (api.Access{}) {
						t.Errorf("%s, the line %d with J %d: %+v, %v, not %+v, and the access %+v", name, line, j, got, ok, want, h.Access)
					}
				}
			}
			for _, line := range otherLines() {
				mustRefuse(t, h, on(b, line, 0, 3))
			}
		}
	}
}

// Each step's access takes the place of the one that stood there.
func TestAccessIsThatOfTheStep(t *testing.T) {
	l := with(with(with(filled(some, 0), 0, 3), 7, 4), 8, 11)
	h := from(t, some, l...)
	at := colourAt(some, 1)
	mustStep(t, h, api.Col{Line: 1}, api.Col{Line: 2, P: 3}, loading(0, 3), l)
	mustStep(t, h, api.Col{Line: 2, P: 11}, api.Col{Line: 1, J: 1}, api.Access{}, l)
	l = with(l, at, api.Grey)
	mustStep(t, h, api.Col{Line: 2, P: 3}, api.Col{Line: 1, J: 1}, shading(at, api.White), l)
	mustStep(t, h, api.Col{Line: 1, J: 7}, api.Col{Line: 3, J: 8}, api.Access{}, l)
	mustStep(t, h, api.Col{Line: 1, J: 1}, api.Col{Line: 1, J: 2}, loading(7, 4), l)
	mustStep(t, h, api.Col{Line: 1, J: 2}, api.Col{Line: 2, J: 2, P: 11}, loading(8, 11), l)
	mustStep(t, h, api.Col{Line: 2, J: 2, P: 3}, api.Col{Line: 1, J: 3}, shading(at, api.Grey), l)
}

// A mutator may write over the root between the two lines: what was loaded is shaded, and the root isn't looked at again.
func TestOthersBetweenTheLines(t *testing.T) {
	for _, w := range []api.Word{0, 4, 3, 9, last} {
		l := with(filled(some, 0), 9, 5)
		h := from(t, some, l...)
		x := api.Col{Line: 1, J: 3}
		mustStep(t, h, x, on(x, 2, 3, 5), loading(9, 5), l)
		h.Arena.Store(9, w)
		l = with(with(l, 9, w), colourAt(some, 2), api.Grey)
		mustStep(t, h, on(x, 2, 3, 5), on(x, 1, 4, 0), shading(colourAt(some, 2), api.White), l)
	}
}

func TestBegin(t *testing.T) {
	for _, c := range []struct{ x, want api.Col }{
		{api.Col{}, api.Col{Line: 1}},
		{api.Col{J: 7, C: 5}, api.Col{Line: 1, C: 5}},
		{
			api.Col{Line: 24, J: 1, C: 2, M: 3, A: 4, P: 5, Found: true, Tail: 6, Cycles: 7},
			api.Col{Line: 1, C: 2, M: 3, A: 4, Found: true, Tail: 6, Cycles: 7},
		},
	} {
		if got := roots.Begin(c.x); got != c.want {
			t.Errorf("Begin(%+v) = %+v, not %+v", c.x, got, c.want)
		}
	}
	for _, b := range busy() {
		for _, line := range append(otherLines(), 1, 2) {
			for _, j := range append(there(some), notThere(some)...) {
				for _, p := range words(some) {
					if got, want := roots.Begin(on(b, line, j, p)), on(b, 1, 0, 0); got != want {
						t.Fatalf("Begin(%+v) = %+v, not %+v", on(b, line, j, p), got, want)
					}
				}
			}
		}
	}
}

// P15.2

// mustScan holds Scanned's answer against what it must be.
func mustScan(t *testing.T, x api.Col, want int) {
	t.Helper()
	if got := roots.Scanned(x); got != want {
		t.Fatalf("Scanned(%+v) = %d, not %d", x, got, want)
	}
}

func TestScannedByHand(t *testing.T) {
	for _, c := range []struct{ line, want int }{
		{-1, 0}, {0, 0}, {1, 4}, {2, 4}, {3, -1}, {4, -1}, {5, -1}, {6, -1}, {7, -1}, {8, -1}, {9, -1}, {10, -1}, {11, -1}, {12, -1},
		{13, -1}, {14, -1}, {15, -1}, {16, -1}, {17, 0}, {18, 0}, {20, 0}, {21, 0}, {22, 0}, {23, 0}, {24, 0}, {math.MinInt, 0}, {math.MaxInt, 0},
	} {
		mustScan(t, api.Col{Line: c.line, J: 4}, c.want)
		mustScan(t, api.Col{Line: c.line, J: 4, C: 3, M: 2, A: 5, P: 7, Found: true, Tail: 6, Cycles: 8}, c.want)
	}
}

// Every J on the lines of this layer, and none on others, whatever else the collector has.
func TestScanned(t *testing.T) {
	lines := []int{math.MinInt, math.MinInt + 1, math.MinInt + 3, math.MaxInt - 1, math.MaxInt, 1<<32 + 1, 1<<32 + 3, 256 + 2, -1 << 32}
	for line := -20; line <= 300; line++ {
		lines = append(lines, line)
	}
	for _, b := range busy() {
		for _, line := range lines {
			for _, j := range append(notThere(some), 0, 1, 2, 5, 6, 4096, math.MaxInt) {
				want := 0
				if line == 1 || line == 2 {
					want = j
				} else if line >= 3 && line <= 16 {
					want = -1
				}
				mustScan(t, on(b, line, j, b.P), want)
			}
		}
	}
}

// P15.3

// cellRoots are how many roots have a cell, the map's or not: each of them takes a second step.
func cellRoots(c api.Config, l []api.Word) int {
	n := 0
	for j := range rootsOf(c) {
		if isCell(l[rootAt(c, j)]) {
			n++
		}
	}
	return n
}

// shaded are the words of a memory behind all its roots: White cells that they have are Grey, and all else is as it was.
func shaded(c api.Config, l []api.Word) []api.Word {
	l = slices.Clone(l)
	for j := range rootsOf(c) {
		w := l[rootAt(c, j)]
		if i := int(w / 2); isCell(w) && i < c.Cells && l[colourAt(c, i)] == api.White {
			l[colourAt(c, i)] = api.Grey
		}
	}
	return l
}

// through goes through the roots, from the first one on: it tells how many steps that took.
func through(t *testing.T, h *hand.Hand, b api.Col) int {
	t.Helper()
	c := h.Config
	x := roots.Begin(b)
	for steps := range 2*rootsOf(c) + 1 {
		if x.Line != 1 && x.Line != 2 {
			if want := on(b, 3, rootsOf(c), 0); x != want {
				t.Fatalf("%v: behind the roots it is %+v, not %+v", c, x, want)
			}
			return steps
		}
		if got := roots.Scanned(x); got != x.J || got < 0 || got >= rootsOf(c) {
			t.Fatalf("%v: of %+v %d roots are scanned", c, x, got)
		}
		mustHaveShaded(t, h, x)
		next, ok := roots.Step(h, x)
		if !ok {
			t.Fatalf("%v: no step is done of %+v", c, x)
		}
		x = next
	}
	t.Fatalf("%v: the roots aren't over behind twice as many steps: %+v", c, x)
	return 0
}

// mustHaveShaded looks at the root that was scanned last: it has no White cell.
func mustHaveShaded(t *testing.T, h *hand.Hand, x api.Col) {
	t.Helper()
	if x.J == 0 {
		return
	}
	w := h.Arena.Load(rootAt(h.Config, x.J-1))
	if i := int(w / 2); isCell(w) && i < h.Cells && h.Arena.Load(colourAt(h.Config, i)) == api.White {
		t.Fatalf("%v: at %+v the root %d has the White cell %d", h.Config, x, x.J-1, i)
	}
}

// mustShadeAll goes through the roots twice, and holds the steps and all words against what they must be.
func mustShadeAll(t *testing.T, c api.Config, l []api.Word, b api.Col) {
	t.Helper()
	h := from(t, c, l...)
	want := shaded(c, l)
	steps := rootsOf(c) + cellRoots(c, l)
	for range 2 {
		if got := through(t, h, b); got != steps {
			t.Fatalf("%v: the roots of %v take %d steps, not %d", c, l, got, steps)
		}
		if got := h.All(); !slices.Equal(got, want) {
			t.Fatalf("%v: behind the roots of %v all words are %v, not %v", c, l, got, want)
		}
	}
}

func TestRootsAtFirst(t *testing.T) {
	for _, c := range right() {
		for _, b := range busy() {
			mustShadeAll(t, c, place.First(c), b)
		}
		h := from(t, c, place.First(c)...)
		if got := through(t, h, api.Col{}); got != rootsOf(c)+1 {
			t.Errorf("%v: at first the roots take %d steps", c, got)
		}
		if want := with(place.First(c), colourAt(c, 0), api.Grey); !slices.Equal(h.All(), want) {
			t.Errorf("%v: behind the roots all words are %v, not %v", c, h.All(), want)
		}
	}
}

// rooted are words of which each root is what it is told to be; the colours go round all that there are, from one on.
func rooted(c api.Config, first int, root func(j int) api.Word) []api.Word {
	l := mixed(c)
	for j := range rootsOf(c) {
		l[rootAt(c, j)] = root(j)
	}
	for i := range c.Cells {
		l[colourAt(c, i)] = colours()[(first+i)%len(colours())]
	}
	return l
}

// Each root has a cell of its own as far as there are cells; all have the same; some have, some not; none has.
func TestRootsOfAllSorts(t *testing.T) {
	for _, c := range right() {
		rows := []func(j int) api.Word{
			func(j int) api.Word { return cell(j % c.Cells) },
			func(j int) api.Word { return cell(c.Cells - 1 - j%c.Cells) },
			func(j int) api.Word { return cell(j * 7 % c.Cells) },
			func(j int) api.Word { return 1 },
			func(j int) api.Word { return cell(c.Cells - 1) },
			func(j int) api.Word { return words(c)[j%len(words(c))] },
			func(j int) api.Word { return words(c)[(j+5)%len(words(c))] },
			func(j int) api.Word { return []api.Word{3, 0, 1, 4}[j%4] },
			func(j int) api.Word { return noCells()[j%len(noCells())] },
			func(j int) api.Word { return cell(4096 + j) },
			func(j int) api.Word { return 0 },
			func(j int) api.Word { return last },
		}
		for k, root := range rows {
			for first := range 3 {
				mustShadeAll(t, c, rooted(c, first, root), busy()[(k+first)%len(busy())])
			}
		}
	}
}

// All colours are one, and each root has a cell: White ones are all that are changed.
func TestRootsOfOneColour(t *testing.T) {
	for _, c := range right() {
		for _, colour := range colours() {
			l := rooted(c, 0, func(j int) api.Word { return cell(j % c.Cells) })
			for i := range c.Cells {
				l[colourAt(c, i)] = colour
			}
			mustShadeAll(t, c, l, api.Col{Tail: 1})
		}
	}
}

// By hand: the steps, and the colours behind them, of seven roots and five White cells.
func TestRootsByHand(t *testing.T) {
	for _, c := range []struct {
		roots   [7]api.Word
		steps   int
		colours [5]api.Word
	}{
		{[7]api.Word{0, 0, 0, 0, 0, 0, 0}, 7, [5]api.Word{}},
		{[7]api.Word{1, 3, 5, 7, 9, 1, 3}, 14, [5]api.Word{1, 1, 1, 1, 1}},
		{[7]api.Word{5, 5, 5, 5, 5, 5, 5}, 14, [5]api.Word{0, 0, 1, 0, 0}},
		{[7]api.Word{1, 0, 0, 0, 0, 0, 9}, 9, [5]api.Word{1, 0, 0, 0, 1}},
		{[7]api.Word{2, 7, 4, 6, 8193, last, 0}, 8, [5]api.Word{0, 0, 0, 1, 0}},
		{[7]api.Word{11, 8191, 13, 0, 0, 0, 0}, 10, [5]api.Word{}},
	} {
		l := filled(some, 0)
		for j, w := range c.roots {
			l[[]int{0, 7, 8, 9, 10, 11, 12}[j]] = w
		}
		h := from(t, some, l...)
		if got := through(t, h, api.Col{}); got != c.steps {
			t.Errorf("the roots %v take %d steps, not %d", c.roots, got, c.steps)
		}
		for i, colour := range c.colours {
			l[15+3*i] = colour
		}
		if got := h.All(); !slices.Equal(got, l) {
			t.Errorf("behind the roots %v all words are %v, not %v", c.roots, got, l)
		}
	}
}

// All memories of two cells and three roots with these words in the roots and the colours.
func TestAllSmallMemories(t *testing.T) {
	of, hues := []api.Word{0, 1, 3, 5, 4, 8193}, []api.Word{api.White, api.Grey, api.Black, 3}
	for n := range len(of) * len(of) * len(of) * len(hues) * len(hues) {
		l := mixed(glob)
		for _, at := range []int{0, 6, 7} {
			l[at] = of[n%len(of)]
			n /= len(of)
		}
		for _, at := range []int{10, 13} {
			l[at] = hues[n%len(hues)]
			n /= len(hues)
		}
		mustShadeAll(t, glob, l, api.Col{C: 1})
	}
}

// What no root has stays White, though cells have it: going on from cell to cell is another layer's.
func TestWhatOnlyCellsHave(t *testing.T) {
	for _, c := range small() {
		l := place.First(c)
		for i := range c.Cells {
			l[colourAt(c, i)-2] = cell(c.Cells - 1 - i)
		}
		h := from(t, c, l...)
		through(t, h, api.Col{})
		if want := with(l, colourAt(c, 0), api.Grey); !slices.Equal(h.All(), want) {
			t.Errorf("%v: behind the roots all words are %v, not %v", c, h.All(), want)
		}
	}
}

// P1, and each answer at all arguments, held against the chapter's table.
func FuzzCalls(f *testing.F) {
	f.Add(2, 1, 0, uint64(1), uint64(0), uint64(0))
	f.Add(3, 1, 6, uint64(7), uint64(4), uint64(2))
	f.Add(9, 2, math.MinInt, uint64(4), uint64(5), uint64(1))
	f.Add(4, 2, math.MaxInt-1, uint64(math.MaxUint64), uint64(3), uint64(0))
	f.Add(4, 1, math.MaxInt, uint64(3), uint64(3), uint64(0))
	f.Add(4, 16, 5, uint64(8191), uint64(8193), uint64(math.MaxUint64))
	f.Fuzz(func(t *testing.T, cells, line, j int, p, root, colour uint64) {
		c := api.Config{Cells: 2 + int(uint(cells)%64), Muts: 2, Regs: 3, Globs: 1}
		x := on(busy()[1], line, j, api.Word(p))
		if got := roots.Begin(x); got != on(x, 1, 0, 0) {
			t.Fatalf("Begin(%+v) = %+v", x, got)
		}
		mustRefuse(t, nil, x)
		l := mixed(c)
		if isCell(api.Word(p)) && int(p/2) < c.Cells {
			l[colourAt(c, int(p/2))] = api.Word(colour)
		}
		there := j >= 0 && j < rootsOf(c)
		if there {
			l[rootAt(c, j)] = api.Word(root)
		}
		h := from(t, c, l...)
		did, want := api.Access{}, l
		switch {
		case line == 1 && there:
			did = loading(rootAt(c, j), api.Word(root))
		case line == 2 && isCell(api.Word(p)) && int(p/2) < c.Cells:
			at := colourAt(c, int(p/2))
			did = shading(at, api.Word(colour))
			if colour == 0 {
				want = with(l, at, api.Grey)
			}
		}
		switch {
		case line != 1 && line != 2:
			mustRefuse(t, h, x)
			mustHave(t, "on another line", h, did, want)
		case line == 1 && there && isCell(api.Word(root)):
			mustStep(t, h, x, on(x, 2, j, api.Word(root)), did, want)
		case j == math.MaxInt:
			mustEnd(t, h, x, did, want)
		default:
			mustStep(t, h, x, behind(c, x), did, want)
		}
	})
}
