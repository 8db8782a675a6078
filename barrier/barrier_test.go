package barrier_test

import (
	"fmt"
	"math"
	"slices"
	"testing"

	"mudlark/api"
	"mudlark/arena"
	"mudlark/barrier"
	"mudlark/hand"
	"mudlark/place"
)

const last = api.Word(math.MaxUint64)

var (
	least = api.Config{Cells: 2, Muts: 1, Regs: 1, Globs: 0}
	some  = api.Config{Cells: 3, Muts: 2, Regs: 2, Globs: 2}
	most  = api.Config{Cells: 4096, Muts: 63, Regs: 64, Globs: 64}
)

func right() []api.Config {
	return []api.Config{least, some, most, {Cells: 4096, Muts: 1, Regs: 1}, {Cells: 2, Muts: 63, Regs: 64, Globs: 64}}
}

// lines are all sorts of lines to go on at: none, those of this layer, those about them, and the ends of int.
func lines() []int {
	return []int{0, 1, 39, 79, 80, 81, 82, 90, -1, -80, -81, 1<<32 + 80, 1<<32 + 81, math.MinInt, math.MinInt + 80, math.MaxInt - 1, math.MaxInt}
}

// otherLines are lines that aren't of this layer.
func otherLines() []int {
	return slices.DeleteFunc(lines(), func(n int) bool { return n == 80 || n == 81 })
}

// cellWords are cells that some configuration may have: the first ones, the last ones, and some between.
func cellWords() []api.Word {
	return []api.Word{1, 3, 5, 7, 255, 257, 4095, 8187, 8189, 8191}
}

// noCells are nil, atoms, and words that are neither an atom nor a cell.
func noCells() []api.Word {
	return []api.Word{
		0, 2, 4, 6, 80, 8190, 8192, 8194, 1 << 32, 1<<63 - 2, 1 << 63, last - 1,
		8193, 8195, 1<<16 + 1, 1<<32 + 1, 1<<32 + 3, 1<<63 - 1, 1<<63 + 1, 1<<63 + 3, last - 2, last,
	}
}

// colours are all colours, and words that are none.
func colours() []api.Word {
	return []api.Word{api.White, api.Grey, api.Black, 3, 4, 256, 1 << 32, 1<<32 + 1, 1 << 63, last}
}

// dirts are words that may be in dirty.
func dirts() []api.Word {
	return []api.Word{0, 1, 2, 3, 1 << 32, 1 << 63, last}
}

// busy are mutators with nothing, with something in each field, and with the greatest numbers there.
func busy() []api.Mut {
	least := math.MinInt
	return []api.Mut{
		{},
		{Line: 18, Op: api.Op{Kind: 6, A: 1, B: 2, C: 3}, A: 7, B: 9, H: 11, N: 13, T: 15, P: 17, Back: 19, Ret: api.RetOK},
		{Line: 80, Op: api.Op{Kind: 3, A: 4, B: 5, C: 6}, A: 1, B: 2, H: 3, N: 4, T: 5, P: 1, Back: 40, Ret: api.RetFull},
		{Line: least, Op: api.Op{Kind: least, A: least, B: least, C: least}, A: last, B: last, H: last, N: last, T: last, P: last, Back: least, Ret: least},
	}
}

// on is a mutator on a line, with a word to be shaded, and a line to go on at.
func on(x api.Mut, line int, p api.Word, back int) api.Mut {
	x.Line, x.P, x.Back = line, p, back
	return x
}

func firstCell(c api.Config) int {
	return 5 + c.Muts + c.Globs + c.Muts*c.Regs
}

func sizeOf(c api.Config) int {
	return firstCell(c) + 3*c.Cells
}

// colourAt is the place of a cell's colour, as chapter 4 has it.
func colourAt(c api.Config, i int) int {
	return firstCell(c) + 3*i + 2
}

// mixed are the words of a memory, no two of which are alike, and none of which is a colour: a word that is changed is seen.
func mixed(c api.Config) []api.Word {
	l := make([]api.Word, sizeOf(c))
	for at := range l {
		l[at] = api.Word(at+1) * 0x9e3779b97f4a7c15
	}
	return l
}

// with are words of which one is another one.
func with(l []api.Word, at int, x api.Word) []api.Word {
	l = slices.Clone(l)
	l[at] = x
	return l
}

func from(t *testing.T, c api.Config, l ...api.Word) *hand.Hand {
	t.Helper()
	h, e := hand.From(c, l...)
	if h == nil || e != api.OK {
		t.Fatalf("From(%v) of %d words = %v, %d", c, len(l), h, e)
	}
	return h
}

// mustBegin holds Begin's answer against what it must be.
func mustBegin(t *testing.T, x api.Mut, w api.Word, back int, want api.Mut) {
	t.Helper()
	if got := barrier.Begin(x, w, back); got != want {
		t.Fatalf("Begin(%+v, %d, %d) = %+v, not %+v", x, w, back, got, want)
	}
}

// mustHave holds the access and all words of a hand against what they must be.
func mustHave(t *testing.T, what string, h *hand.Hand, x api.Access, want []api.Word) {
	t.Helper()
	if h.Access != x {
		t.Fatalf("%s: the access is %+v, not %+v", what, h.Access, x)
	}
	if got := h.All(); !slices.Equal(got, want) {
		t.Fatalf("%s: all words are %v, not %v", what, got, want)
	}
}

// mustStep does a line, and holds its answer, the access and all words against what they must be.
func mustStep(t *testing.T, h *hand.Hand, x, want api.Mut, did api.Access, words []api.Word) {
	t.Helper()
	c := h.Config
	got, ok := barrier.Step(h, x)
	if !ok || got != want {
		t.Fatalf("%v: Step(%+v) = %+v, %v, not %+v", c, x, got, ok, want)
	}
	mustHave(t, fmt.Sprintf("%v: behind %+v", c, x), h, did, words)
	if h.Config != c {
		t.Fatalf("behind %+v the map is that of %v, not of %v", x, h.Config, c)
	}
}

// mustRefuse holds Step's answer on a line of another layer, or with a nil hand, against what it must be.
func mustRefuse(t *testing.T, h *hand.Hand, x api.Mut) {
	t.Helper()
	if got, ok := barrier.Step(h, x); ok || got != x {
		t.Fatalf("Step(%+v) = %+v, %v", x, got, ok)
	}
}

// shading is the access of the line 80, and soiling that of the line 81.
func shading(at int, old api.Word) api.Access {
	return api.Access{Kind: api.ACas, At: at, X: api.White, Y: api.Grey, Old: old}
}

func soiling(old api.Word) api.Access {
	return api.Access{Kind: api.AStore, At: api.AtDirty, X: 1, Old: old}
}

// P10.1

func TestExample(t *testing.T) {
	h, e := hand.New(least)
	if e != api.OK {
		t.Fatal(e)
	}
	x, ok := barrier.Step(h, api.Mut{Line: 80, P: 1, Back: 90})
	if !ok || x != (api.Mut{Line: 81, Back: 90}) {
		t.Fatalf("behind the line 80: %+v, %v", x, ok)
	}
	mustHave(t, "behind the line 80", h, api.Access{Kind: api.ACas, At: 9, Y: 1}, []api.Word{1, 0, 0, 0, 0, 0, 0, 0, 3, 1, 0, 0, 0})
	x, ok = barrier.Step(h, x)
	if !ok || x != (api.Mut{Line: 90}) {
		t.Fatalf("behind the line 81: %+v, %v", x, ok)
	}
	mustHave(t, "behind the line 81", h, api.Access{Kind: api.AStore, At: 2, X: 1}, []api.Word{1, 0, 1, 0, 0, 0, 0, 0, 3, 1, 0, 0, 0})
}

func TestBeginByHand(t *testing.T) {
	mustBegin(t, api.Mut{}, 1, 37, api.Mut{Line: 80, P: 1, Back: 37})
	mustBegin(t, api.Mut{}, 8191, 37, api.Mut{Line: 80, P: 8191, Back: 37})
	mustBegin(t, api.Mut{Line: 12, A: 5, Ret: 1, P: 3, Back: 4}, 5, 90, api.Mut{Line: 80, A: 5, Ret: 1, P: 5, Back: 90})
	mustBegin(t, api.Mut{Line: 12, A: 4, Ret: 1, P: 3, Back: 4}, 4, 90, api.Mut{Line: 90, A: 4, Ret: 1})
	mustBegin(t, api.Mut{Line: 12, P: 3, Back: 4}, api.Nil, 90, api.Mut{Line: 90})
	mustBegin(t, api.Mut{Line: 12, P: 3, Back: 4}, 8193, 90, api.Mut{Line: 90})
}

// Of a cell, whatever was in P and Back ahead: every other field is kept.
func TestBeginOfCells(t *testing.T) {
	for _, x := range busy() {
		for _, w := range cellWords() {
			for _, back := range lines() {
				mustBegin(t, x, w, back, on(x, 80, w, back))
			}
		}
	}
}

func TestBeginOfNoCells(t *testing.T) {
	for _, x := range busy() {
		for _, w := range noCells() {
			for _, back := range lines() {
				mustBegin(t, x, w, back, on(x, back, 0, 0))
			}
		}
	}
}

// All cells that there may be, and the atoms of their numbers.
func TestBeginOfAllCells(t *testing.T) {
	x := busy()[1]
	for i := range api.Word(4096) {
		mustBegin(t, x, 2*i+1, 39, on(x, 80, 2*i+1, 39))
		mustBegin(t, x, 2*i, 39, on(x, 39, 0, 0))
	}
}

// The line 80 of the first and the last cell, of each colour, and of words that are none.
func TestShading(t *testing.T) {
	for _, c := range right() {
		for _, i := range []int{0, 1, c.Cells - 1} {
			at := colourAt(c, i)
			for k, was := range colours() {
				l := with(mixed(c), at, was)
				h := from(t, c, l...)
				x := on(busy()[k%len(busy())], 80, api.Word(2*i+1), 39)
				if was == api.White {
					mustStep(t, h, x, on(x, 81, 0, 39), shading(at, was), with(l, at, api.Grey))
				} else {
					mustStep(t, h, x, on(x, 39, 0, 0), shading(at, was), l)
				}
			}
		}
	}
}

// Any line is gone on at, with whatever the mutator has beside it.
func TestShadingGoesOnAtAnyLine(t *testing.T) {
	at := colourAt(some, 2)
	white := with(mixed(some), at, api.White)
	black := with(mixed(some), at, api.Black)
	for _, b := range busy() {
		for _, back := range lines() {
			x := on(b, 80, 5, back)
			mustStep(t, from(t, some, white...), x, on(x, 81, 0, back), shading(at, api.White), with(white, at, api.Grey))
			mustStep(t, from(t, some, black...), x, on(x, back, 0, 0), shading(at, api.Black), black)
		}
	}
}

// All places are White's word: none of them but the cell's colour is shaded.
func TestShadingAmongZeroWords(t *testing.T) {
	for i := range some.Cells {
		l := make([]api.Word, sizeOf(some))
		x := api.Mut{Line: 80, P: api.Word(2*i + 1), Back: 3}
		at := colourAt(some, i)
		mustStep(t, from(t, some, l...), x, api.Mut{Line: 81, Back: 3}, shading(at, api.White), with(l, at, api.Grey))
	}
}

// outside are words that are no cell of a map: atoms, words that are neither, and cells that only a greater map has.
func outside(c api.Config) []api.Word {
	l := noCells()
	for _, i := range []int{c.Cells, c.Cells + 1, 4094, 4095} {
		if i >= c.Cells {
			l = append(l, api.Word(2*i+1))
		}
	}
	return l
}

// Of what is no cell of the map no access is done, and the one that was done ahead is gone.
func TestShadingOfNoCell(t *testing.T) {
	for _, c := range right() {
		for _, l := range [][]api.Word{mixed(c), make([]api.Word, sizeOf(c))} {
			h := from(t, c, l...)
			for k, p := range outside(c) {
				x := on(busy()[k%len(busy())], 80, p, lines()[k%len(lines())])
				h.Load(api.AtGate)
				mustStep(t, h, x, on(x, x.Back, 0, 0), api.Access{}, l)
				mustStep(t, h, x, on(x, x.Back, 0, 0), api.Access{}, l)
			}
		}
	}
}

// The line 81, whatever dirty is, and whatever P and the other fields have.
func TestSoiling(t *testing.T) {
	for _, c := range right() {
		for _, was := range dirts() {
			l := with(mixed(c), api.AtDirty, was)
			h := from(t, c, l...)
			for k, p := range []api.Word{0, 1, 3, 4, api.Word(2*c.Cells - 1), api.Word(2*c.Cells + 1), last} {
				x := on(busy()[k%len(busy())], 81, p, 90)
				h.Arena.Store(api.AtDirty, was)
				mustStep(t, h, x, on(x, 90, 0, 0), soiling(was), with(l, api.AtDirty, 1))
			}
		}
	}
}

func TestSoilingGoesOnAtAnyLine(t *testing.T) {
	l := mixed(some)
	for _, b := range busy() {
		for _, back := range lines() {
			x := on(b, 81, 5, back)
			mustStep(t, from(t, some, l...), x, on(x, back, 0, 0), soiling(l[api.AtDirty]), with(l, api.AtDirty, 1))
		}
	}
}

// A colour that could be shaded plays no part on the line 81.
func TestSoilingShadesNothing(t *testing.T) {
	l := make([]api.Word, sizeOf(some))
	mustStep(t, from(t, some, l...), api.Mut{Line: 81, P: 1, Back: 7}, api.Mut{Line: 7}, soiling(0), with(l, api.AtDirty, 1))
}

// On other lines nothing is done, and the access of an earlier step stays as well.
func TestOtherLines(t *testing.T) {
	for _, l := range [][]api.Word{mixed(some), make([]api.Word, sizeOf(some))} {
		h := from(t, some, l...)
		for _, did := range []api.Access{{}, {Kind: api.ALoad, At: 3, Old: 9}, {Kind: 99, At: -1, X: 97, Y: 96, Old: 95}} {
			h.Access = did
			for _, b := range busy() {
				for _, line := range append(otherLines(), 10, 37, 78, 83, 180, 181, 8080) {
					for _, p := range []api.Word{0, 1, 5, 7} {
						mustRefuse(t, h, on(b, line, p, 80))
						mustHave(t, fmt.Sprintf("on the line %d", line), h, did, l)
					}
				}
			}
		}
	}
}

func TestNilHand(t *testing.T) {
	for _, b := range busy() {
		for _, line := range lines() {
			for _, p := range append(cellWords(), noCells()...) {
				mustRefuse(t, nil, on(b, line, p, 39))
			}
		}
	}
}

// A hand that has no places can do no access: White wasn't there, and dirty isn't either.
func TestHandsWithoutPlaces(t *testing.T) {
	for name, h := range map[string]*hand.Hand{
		"a zero hand": {},
		"no arena":    {Map: place.Map{Config: some}},
		"no map":      {Arena: arena.New()},
	} {
		for _, x := range busy() {
			for _, line := range []int{80, 81} {
				h.Access = api.Access{Kind: api.ALoad, At: 1}
				got, ok := barrier.Step(h, on(x, line, 1, 39))
				if want := on(x, 39, 0, 0); !ok || got != want || h.Access != (api.Access{}) {
					t.Errorf("%s, the line %d: %+v, %v, and the access %+v", name, line, got, ok, h.Access)
				}
			}
			for _, line := range otherLines() {
				mustRefuse(t, h, on(x, line, 1, 39))
			}
		}
	}
}

// A step without an access behind one that did one: the access is a zero one, whatever stood there.
func TestAccessIsThatOfTheStep(t *testing.T) {
	l := make([]api.Word, sizeOf(least))
	h := from(t, least, l...)
	for range 2 {
		h.Arena.Store(9, api.White)
		l = with(l, 9, api.Grey)
		mustStep(t, h, api.Mut{Line: 80, P: 1, Back: 6}, api.Mut{Line: 81, Back: 6}, shading(9, api.White), l)
		mustStep(t, h, api.Mut{Line: 80, P: 5, Back: 6}, api.Mut{Line: 6}, api.Access{}, l)
		was := l[api.AtDirty]
		l = with(l, api.AtDirty, 1)
		mustStep(t, h, api.Mut{Line: 81, Back: 6}, api.Mut{Line: 6}, soiling(was), l)
		mustStep(t, h, api.Mut{Line: 80, Back: 6}, api.Mut{Line: 6}, api.Access{}, l)
		h.Access = api.Access{Kind: 99, At: 98, X: 97, Y: 96, Old: 95}
		mustStep(t, h, api.Mut{Line: 80, P: 1, Back: 6}, api.Mut{Line: 6}, shading(9, api.Grey), l)
		h.Access = api.Access{Kind: 99, At: 98, X: 97, Y: 96, Old: 95}
		mustStep(t, h, api.Mut{Line: 80, P: 4, Back: 6}, api.Mut{Line: 6}, api.Access{}, l)
	}
}

// Who goes on at a line of this layer has nothing to shade there any more.
func TestGoingOnAtTheseLines(t *testing.T) {
	l := with(mixed(least), 9, api.White)
	h := from(t, least, l...)
	x := barrier.Begin(api.Mut{}, 1, 80)
	l = with(l, 9, api.Grey)
	mustStep(t, h, x, api.Mut{Line: 81, Back: 80}, shading(9, api.White), l)
	was := l[api.AtDirty]
	l = with(l, api.AtDirty, 1)
	mustStep(t, h, api.Mut{Line: 81, Back: 80}, api.Mut{Line: 80}, soiling(was), l)
	mustStep(t, h, api.Mut{Line: 80}, api.Mut{}, api.Access{}, l)
	mustRefuse(t, h, api.Mut{})
	mustStep(t, h, api.Mut{Line: 80, P: 1, Back: 81}, api.Mut{Line: 81}, shading(9, api.Grey), l)
	mustStep(t, h, api.Mut{Line: 81}, api.Mut{}, soiling(1), l)
}

// P10.2

// run shades a word from Begin on, until the line to go on at is there: it tells how many steps that took.
func run(t *testing.T, h *hand.Hand, x api.Mut, w api.Word) int {
	t.Helper()
	const back = 39
	want := on(x, back, 0, 0)
	x = barrier.Begin(x, w, back)
	for steps := range 3 {
		next, ok := barrier.Step(h, x)
		if !ok {
			if x != want {
				t.Fatalf("behind shading %d it is %+v, not %+v", w, x, want)
			}
			return steps
		}
		x = next
	}
	t.Fatalf("shading %d isn't over behind three steps: %+v", w, x)
	return 0
}

// Both lines over all colours, and once more: the cell isn't White, dirty is 1 if it was, and nothing else is changed.
func TestBothLines(t *testing.T) {
	for _, c := range right() {
		for _, i := range []int{0, 1, c.Cells - 1} {
			for k, was := range colours() {
				l := with(mixed(c), colourAt(c, i), was)
				l[api.AtDirty] = dirts()[k%len(dirts())]
				h := from(t, c, l...)
				x, w := busy()[k%len(busy())], api.Word(2*i+1)
				want, steps := l, 1
				if was == api.White {
					want, steps = with(with(l, colourAt(c, i), api.Grey), api.AtDirty, 1), 2
				}
				if got := run(t, h, x, w); got != steps || !slices.Equal(h.All(), want) {
					t.Fatalf("%v: shading the cell %d, which was %d, takes %d steps, and leaves %v", c, i, was, got, h.All())
				}
				if got := run(t, h, x, w); got != 1 || !slices.Equal(h.All(), want) {
					t.Fatalf("%v: once more, the cell %d takes %d steps, and leaves %v", c, i, got, h.All())
				}
			}
		}
	}
}

// All cells of a memory, one by one, in all colours and with all that dirty may be.
func TestEachCellByItself(t *testing.T) {
	c := api.Config{Cells: 7, Muts: 3, Regs: 2, Globs: 1}
	for i := range c.Cells {
		for _, was := range colours() {
			for _, dirt := range dirts() {
				l := with(with(mixed(c), colourAt(c, i), was), api.AtDirty, dirt)
				h := from(t, c, l...)
				run(t, h, api.Mut{}, api.Word(2*i+1))
				if was == api.White {
					l[colourAt(c, i)], l[api.AtDirty] = api.Grey, 1
				}
				if !slices.Equal(h.All(), l) {
					t.Fatalf("the cell %d was %d, and dirty %d: %v, not %v", i, was, dirt, h.All(), l)
				}
			}
		}
	}
}

// What is no cell is shaded by no step, and what the map hasn't by one that does nothing.
func TestWordsThatAreNotShaded(t *testing.T) {
	l := make([]api.Word, sizeOf(some))
	for _, x := range busy() {
		h := from(t, some, l...)
		for _, w := range noCells() {
			if got := run(t, h, x, w); got != 0 || !slices.Equal(h.All(), l) {
				t.Fatalf("shading %d takes %d steps, and leaves %v", w, got, h.All())
			}
		}
		for _, w := range []api.Word{7, 9, 8189, 8191} {
			if got := run(t, h, x, w); got != 1 || !slices.Equal(h.All(), l) {
				t.Fatalf("shading %d takes %d steps, and leaves %v", w, got, h.All())
			}
		}
	}
}

// The collector may clear dirty, or blacken the cell, between the two lines: dirty is 1 behind them all the same.
func TestOthersBetweenTheLines(t *testing.T) {
	for _, was := range dirts() {
		l := with(mixed(some), colourAt(some, 1), api.White)
		h := from(t, some, l...)
		x, _ := barrier.Step(h, barrier.Begin(api.Mut{}, 3, 90))
		h.Arena.Store(api.AtDirty, was)
		h.Arena.Store(colourAt(some, 1), api.Black)
		l = with(with(l, api.AtDirty, 1), colourAt(some, 1), api.Black)
		mustStep(t, h, x, api.Mut{Line: 90}, soiling(was), l)
	}
}

// Two mutators shade one cell: the one that found it White is to soil, and the other one goes on at once.
func TestTwoMutatorsOfOneCell(t *testing.T) {
	l := make([]api.Word, sizeOf(least))
	h := from(t, least, l...)
	x, y := barrier.Begin(api.Mut{T: 1}, 3, 39), barrier.Begin(api.Mut{T: 2}, 3, 90)
	l = with(l, 12, api.Grey)
	mustStep(t, h, x, api.Mut{T: 1, Line: 81, Back: 39}, shading(12, api.White), l)
	mustStep(t, h, y, api.Mut{T: 2, Line: 90}, shading(12, api.Grey), l)
	mustStep(t, h, api.Mut{T: 1, Line: 81, Back: 39}, api.Mut{T: 1, Line: 39}, soiling(0), with(l, api.AtDirty, 1))
}

// P1, and each answer at all arguments, held against the chapter's table.
func FuzzCalls(f *testing.F) {
	f.Add(2, 80, uint64(1), 90, uint64(0), uint64(0), uint64(3))
	f.Add(3, 80, uint64(7), 81, uint64(2), uint64(1), uint64(8191))
	f.Add(9, 81, uint64(4), math.MinInt, uint64(1), uint64(math.MaxUint64), uint64(8193))
	f.Add(4, math.MaxInt, uint64(math.MaxUint64), 80, uint64(0), uint64(5), uint64(0))
	f.Fuzz(func(t *testing.T, cells, line int, p uint64, back int, colour, dirt, w uint64) {
		c := api.Config{Cells: 2 + int(uint(cells)%64), Muts: 2, Regs: 3, Globs: 1}
		x := on(busy()[1], line, api.Word(p), back)
		if w%2 == 1 && w/2 < 4096 {
			mustBegin(t, x, api.Word(w), back, on(x, 80, api.Word(w), back))
		} else {
			mustBegin(t, x, api.Word(w), back, on(x, back, 0, 0))
		}
		mustRefuse(t, nil, x)
		l := with(mixed(c), api.AtDirty, api.Word(dirt))
		at := -1
		if p%2 == 1 && p/2 < uint64(c.Cells) {
			at = colourAt(c, int(p/2))
			l[at] = api.Word(colour)
		}
		h := from(t, c, l...)
		switch {
		case line == 81:
			mustStep(t, h, x, on(x, back, 0, 0), soiling(api.Word(dirt)), with(l, api.AtDirty, 1))
		case line != 80:
			mustRefuse(t, h, x)
			mustHave(t, "on another line", h, api.Access{}, l)
		case at < 0:
			mustStep(t, h, x, on(x, back, 0, 0), api.Access{}, l)
		case colour == 0:
			mustStep(t, h, x, on(x, 81, 0, back), shading(at, api.White), with(l, at, api.Grey))
		default:
			mustStep(t, h, x, on(x, back, 0, 0), shading(at, api.Word(colour)), l)
		}
	})
}
