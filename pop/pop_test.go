package pop_test

import (
	"fmt"
	"math"
	"slices"
	"testing"

	"mudlark/api"
	"mudlark/arena"
	"mudlark/barrier"
	"mudlark/hand"
	"mudlark/place"
	"mudlark/pop"
	"mudlark/ticket"
)

const last = api.Word(math.MaxUint64)

var (
	least = api.Config{Cells: 2, Muts: 1, Regs: 1, Globs: 0}
	three = api.Config{Cells: 3, Muts: 1, Regs: 1, Globs: 0}
	some  = api.Config{Cells: 5, Muts: 2, Regs: 2, Globs: 2}
	most  = api.Config{Cells: 4096, Muts: 63, Regs: 64, Globs: 64}
)

func right() []api.Config {
	return []api.Config{least, three, some, most, {Cells: 4096, Muts: 1, Regs: 1}, {Cells: 2, Muts: 63, Regs: 64, Globs: 64}}
}

// wrong are configurations that aren't right: the empty one, each number at fault by itself, and all of them.
func wrong() []api.Config {
	l := []api.Config{{}}
	for _, c := range []api.Config{least, some, most} {
		for _, n := range []int{math.MinInt, -1 << 32, -1, 5000, 1 << 32, 1<<32 + 2, math.MaxInt} {
			l = append(l, each(c, n, n, n, n)...)
			l = append(l, api.Config{Cells: n, Muts: n, Regs: n, Globs: n})
		}
		l = append(l, nearly(c)...)
	}
	return l
}

// nearly are configurations of which one number is just outside.
func nearly(c api.Config) []api.Config {
	return append(each(c, 1, 0, 0, -1), each(c, 4097, 64, 65, 65)...)
}

// each are four configurations: in each of them one number of c is another one.
func each(c api.Config, cells, muts, regs, globs int) []api.Config {
	return []api.Config{
		{Cells: cells, Muts: c.Muts, Regs: c.Regs, Globs: c.Globs}, {Cells: c.Cells, Muts: muts, Regs: c.Regs, Globs: c.Globs},
		{Cells: c.Cells, Muts: c.Muts, Regs: regs, Globs: c.Globs}, {Cells: c.Cells, Muts: c.Muts, Regs: c.Regs, Globs: globs},
	}
}

// ownLines are the lines of this layer.
func ownLines() []int {
	return []int{34, 35, 36}
}

// otherLines are lines of other layers, lines that there aren't, and the ends of int.
func otherLines() []int {
	return []int{
		0, 1, 6, 10, 30, 31, 32, 33, 37, 38, 39, 40, 41, 42, 64, 80, 81, 90, 134, 256 + 34, 3434,
		-1, -34, -35, -36, 1<<32 + 34, 1<<32 + 35, 1<<32 + 36,
		math.MinInt, math.MinInt + 34, math.MinInt + 35, math.MinInt + 36, math.MaxInt - 1, math.MaxInt,
	}
}

// noCells are nil, atoms, and words that are neither an atom nor a cell.
func noCells() []api.Word {
	return []api.Word{
		0, 2, 4, 6, 34, 8190, 8192, 8194, 1 << 32, 1<<63 - 2, 1 << 63, last - 1,
		8193, 8195, 1<<16 + 1, 1<<32 + 1, 1<<32 + 3, 1<<63 - 1, 1<<63 + 1, 1<<63 + 3, last - 2, last,
	}
}

// inside are cells of a map: the first ones, one in the middle, and the last one.
func inside(c api.Config) []api.Word {
	return []api.Word{1, 3, cell(c.Cells / 2), cell(c.Cells - 1)}
}

// beyond are cells that only a greater map has: none, if there is no greater one.
func beyond(c api.Config) []api.Word {
	var l []api.Word
	for _, i := range []int{c.Cells, c.Cells + 1, 2*c.Cells + 1, 4094, 4095} {
		if i >= c.Cells && i < 4096 {
			l = append(l, cell(i))
		}
	}
	return l
}

// words are words of all sorts: cells of the map, cells of greater ones, and no cells.
func words(c api.Config) []api.Word {
	return slices.Concat(inside(c), beyond(c), noCells())
}

// isCell tells what a cell is, as chapter 1 has it.
func isCell(w api.Word) bool {
	return w%2 == 1 && w/2 < 4096
}

func cell(i int) api.Word {
	return api.Word(2*i + 1)
}

// busy are mutators with nothing, with something in each field, and with the greatest numbers there.
func busy() []api.Mut {
	least := math.MinInt
	return []api.Mut{
		{},
		{Line: 18, Op: api.Op{Kind: 6, A: 1, B: 2, C: 3}, A: 7, B: 9, H: 11, N: 13, T: 15, P: 17, Back: 19, Ret: api.RetOK},
		{Line: 80, Op: api.Op{Kind: 3, A: 4, B: 5, C: 6}, A: 1, B: 2, H: 3, N: 4, T: 5, P: 1, Back: 37, Ret: api.RetTrue},
		{Line: least, Op: api.Op{Kind: least, A: least, B: least, C: least}, A: last, B: last, H: last, N: last, T: last, P: last, Back: least, Ret: least},
	}
}

// on is a mutator on a line, with a first cell and a next one: all else is kept.
func on(x api.Mut, line int, h, n api.Word) api.Mut {
	x.Line, x.H, x.N = line, h, n
	return x
}

// full is a mutator that has found no cell, of a first one and of what stood behind it.
func full(x api.Mut, h, n api.Word) api.Mut {
	x = on(x, 41, h, n)
	x.Ret = api.RetFull
	return x
}

// taken is a mutator that has taken a cell, and is to shade the one that is the first one now.
func taken(x api.Mut, h, n api.Word) api.Mut {
	if !isCell(n) {
		x = on(x, 37, h, n)
		x.P, x.Back = 0, 0
		return x
	}
	x = on(x, 80, h, n)
	x.P, x.Back = n, 37
	return x
}

func firstCell(c api.Config) int {
	return 5 + c.Muts + c.Globs + c.Muts*c.Regs
}

func sizeOf(c api.Config) int {
	return firstCell(c) + 3*c.Cells
}

// cdrAt is the place of a cell's cdr, as chapter 4 has it.
func cdrAt(c api.Config, i int) int {
	return firstCell(c) + 3*i + 1
}

// mixed are the words of a memory, no two of which are alike, and none of which is nil or a cell: a word that is changed is seen.
func mixed(c api.Config) []api.Word {
	l := make([]api.Word, sizeOf(c))
	for at := range l {
		l[at] = api.Word(at+1) * 0x9e3779b97f4a7c15
	}
	return l
}

// with are words of which one is another one.
func with(l []api.Word, at int, x api.Word) []api.Word {
	l = slices.Clone(l)
	l[at] = x
	return l
}

// listed are the words of a memory with a free list of these cells: what isn't of the list is mixed.
func listed(c api.Config, cells ...int) []api.Word {
	l := mixed(c)
	l[0] = 0
	at := 0
	for _, i := range cells {
		l[at] = cell(i)
		at = cdrAt(c, i)
	}
	l[at] = 0
	return l
}

func from(t *testing.T, c api.Config, l ...api.Word) *hand.Hand {
	t.Helper()
	h, e := hand.From(c, l...)
	if h == nil || e != api.OK {
		t.Fatalf("From(%v) of %d words = %v, %d", c, len(l), h, e)
	}
	return h
}

// mustHave holds the access and all words of a hand against what they must be.
func mustHave(t *testing.T, what string, h *hand.Hand, x api.Access, want []api.Word) {
	t.Helper()
	if h.Access != x {
		t.Fatalf("%s: the access is %+v, not %+v", what, h.Access, x)
	}
	if got := h.All(); !slices.Equal(got, want) {
		t.Fatalf("%s: all words are %v, not %v", what, got, want)
	}
}

// mustStep does a line, and holds its answer, the access and all words against what they must be.
func mustStep(t *testing.T, h *hand.Hand, x, want api.Mut, lin bool, did api.Access, words []api.Word) {
	t.Helper()
	c := h.Config
	got, gotLin, ok := pop.Step(h, x)
	if !ok || got != want || gotLin != lin {
		t.Fatalf("%v: Step(%+v) = %+v, %v, %v, not %+v, %v", c, x, got, gotLin, ok, want, lin)
	}
	mustHave(t, fmt.Sprintf("%v: behind %+v", c, x), h, did, words)
	if h.Config != c {
		t.Fatalf("behind %+v the map is that of %v, not of %v", x, h.Config, c)
	}
}

// mustRefuse holds Step's answer on a line of another layer, or with a nil hand, against what it must be.
func mustRefuse(t *testing.T, h *hand.Hand, x api.Mut) {
	t.Helper()
	if got, lin, ok := pop.Step(h, x); lin || ok || got != x {
		t.Fatalf("Step(%+v) = %+v, %v, %v", x, got, lin, ok)
	}
}

// mustList holds List's answer against what it must be, and the words that were handed in against what they were.
func mustList(t *testing.T, c api.Config, l []api.Word, want ...int) {
	t.Helper()
	was := slices.Clone(l)
	if got, ok := pop.List(c, l...); !ok || !slices.Equal(got, want) {
		t.Fatalf("List(%v, %v) = %v, %v, not %v", c, l, got, ok, want)
	}
	if !slices.Equal(l, was) {
		t.Fatalf("List(%v, %v) has made %v of its words", c, was, l)
	}
}

// mustBeNoList holds List's answer of what has no free list against what it must be.
func mustBeNoList(t *testing.T, c api.Config, l []api.Word) {
	t.Helper()
	was := slices.Clone(l)
	if got, ok := pop.List(c, l...); ok || len(got) != 0 {
		t.Fatalf("List(%v, %v) = %v, %v", c, l, got, ok)
	}
	if !slices.Equal(l, was) {
		t.Fatalf("List(%v, %v) has made %v of its words", c, was, l)
	}
}

// heading is the access of the line 34, looking that of the line 35, and taking that of the line 36.
func heading(old api.Word) api.Access {
	return api.Access{Kind: api.ALoad, At: 0, Old: old}
}

func looking(at int, old api.Word) api.Access {
	return api.Access{Kind: api.ALoad, At: at, Old: old}
}

func taking(x, old api.Word) api.Access {
	return api.Access{Kind: api.AStore, At: 0, X: x, Old: old}
}

// stray is an access that no step does: what a step leaves of it is seen.
func stray() api.Access {
	return api.Access{Kind: 99, At: 98, X: 97, Y: 96, Old: 95}
}

// P13.1

// At first, of three cells: the list 0, 1, 2; behind a cell was taken: 1, 2.
func TestExample(t *testing.T) {
	h, e := hand.New(three)
	if e != api.OK {
		t.Fatal(e)
	}
	l := []api.Word{1, 0, 0, 0, 0, 0, 0, 0, 3, 0, 0, 5, 0, 0, 0, 0}
	mustList(t, three, h.All(), 0, 1, 2)
	mustStep(t, h, api.Mut{Line: 34}, api.Mut{Line: 35, H: 1}, false, api.Access{Kind: api.ALoad, At: 0, Old: 1}, l)
	mustList(t, three, h.All(), 0, 1, 2)
	mustStep(t, h, api.Mut{Line: 35, H: 1}, api.Mut{Line: 36, H: 1, N: 3}, false, api.Access{Kind: api.ALoad, At: 8, Old: 3}, l)
	mustList(t, three, h.All(), 0, 1, 2)
	l[0] = 3
	mustStep(t, h, api.Mut{Line: 36, H: 1, N: 3}, api.Mut{Line: 80, H: 1, N: 3, P: 3, Back: 37}, true, api.Access{Kind: api.AStore, At: 0, X: 3, Old: 1}, l)
	mustList(t, three, h.All(), 1, 2)
}

// The same of the cells that are left: the last one isn't taken.
func TestExampleGoesOn(t *testing.T) {
	h := from(t, three, 3, 0, 0, 0, 0, 0, 0, 0, 3, 0, 0, 5, 0, 0, 0, 0)
	l := h.All()
	mustStep(t, h, api.Mut{Line: 34}, api.Mut{Line: 35, H: 3}, false, api.Access{Kind: api.ALoad, At: 0, Old: 3}, l)
	mustStep(t, h, api.Mut{Line: 35, H: 3}, api.Mut{Line: 36, H: 3, N: 5}, false, api.Access{Kind: api.ALoad, At: 11, Old: 5}, l)
	l[0] = 5
	mustStep(t, h, api.Mut{Line: 36, H: 3, N: 5}, api.Mut{Line: 80, H: 3, N: 5, P: 5, Back: 37}, true, api.Access{Kind: api.AStore, At: 0, X: 5, Old: 3}, l)
	mustList(t, three, h.All(), 2)
	mustStep(t, h, api.Mut{Line: 34}, api.Mut{Line: 35, H: 5}, false, api.Access{Kind: api.ALoad, At: 0, Old: 5}, l)
	mustStep(t, h, api.Mut{Line: 35, H: 5}, api.Mut{Line: 41, H: 5, Ret: api.RetFull}, true, api.Access{Kind: api.ALoad, At: 14}, l)
	mustList(t, three, h.All(), 2)
}

// The line 34, whatever free is, and whatever the mutator has beside it.
func TestHeading(t *testing.T) {
	for _, c := range right() {
		for k, free := range words(c) {
			l := with(mixed(c), 0, free)
			h := from(t, c, l...)
			for j, ahead := range []api.Word{0, 1, 4, free, last} {
				x := on(busy()[(j+k)%len(busy())], 34, ahead, ahead)
				h.Access = stray()
				mustStep(t, h, x, on(x, 35, free, ahead), false, heading(free), l)
			}
		}
	}
	for _, b := range busy() {
		for _, free := range words(some) {
			l := with(mixed(some), 0, free)
			x := on(b, 34, b.H, b.N)
			mustStep(t, from(t, some, l...), x, on(b, 35, free, b.N), false, heading(free), l)
		}
	}
}

// The line 35 of a cell of the map, whatever its cdr is: what is a cell is gone on with, the map's or not.
func TestLooking(t *testing.T) {
	for _, c := range right() {
		for _, first := range inside(c) {
			at := cdrAt(c, int(first/2))
			for k, behind := range words(c) {
				l := with(mixed(c), at, behind)
				h := from(t, c, l...)
				x := on(busy()[k%len(busy())], 35, first, 9)
				h.Access = stray()
				if isCell(behind) {
					mustStep(t, h, x, on(x, 36, first, behind), false, looking(at, behind), l)
				} else {
					mustStep(t, h, x, full(x, first, behind), true, looking(at, behind), l)
				}
			}
		}
	}
}

// All that a mutator may have beside it, with each of the two ends of the line 35.
func TestLookingKeepsTheRest(t *testing.T) {
	for _, b := range busy() {
		for _, ahead := range []api.Word{0, 1, 4, last} {
			x := on(b, 35, 5, ahead)
			l := with(mixed(three), 14, 1)
			mustStep(t, from(t, three, l...), x, on(b, 36, 5, 1), false, looking(14, 1), l)
			l = with(l, 14, 4)
			mustStep(t, from(t, three, l...), x, full(b, 5, 4), true, looking(14, 4), l)
		}
	}
}

// By hand: what is the least and the greatest cell, and what is next to these.
func TestLookingByHand(t *testing.T) {
	for _, c := range []struct {
		behind api.Word
		line   int
		ret    int
	}{
		{0, 41, api.RetFull}, {1, 36, 0}, {2, 41, api.RetFull}, {3, 36, 0}, {5, 36, 0}, {8189, 36, 0}, {8190, 41, api.RetFull},
		{8191, 36, 0}, {8192, 41, api.RetFull}, {8193, 41, api.RetFull}, {8195, 41, api.RetFull}, {last, 41, api.RetFull},
	} {
		l := with(mixed(least), 8, c.behind)
		want := api.Mut{Line: c.line, H: 1, N: c.behind, Ret: c.ret}
		mustStep(t, from(t, least, l...), api.Mut{Line: 35, H: 1}, want, c.ret != 0, api.Access{Kind: api.ALoad, At: 8, Old: c.behind}, l)
	}
}

// The cdr that is looked at is that of H, not that of the first cell just then, nor a car or a colour.
func TestLookingBehindH(t *testing.T) {
	for i := range some.Cells {
		l := make([]api.Word, sizeOf(some))
		for at := range l {
			l[at] = cell(at)
		}
		at := cdrAt(some, i)
		x := api.Mut{Line: 35, H: cell(i)}
		mustStep(t, from(t, some, l...), x, on(x, 36, cell(i), cell(at)), false, looking(at, cell(at)), l)
		l = with(l, at, 0)
		mustStep(t, from(t, some, l...), x, full(x, cell(i), 0), true, looking(at, 0), l)
	}
}

// Of an H that is no cell of the map no access is done, the one that was done ahead is gone, and N is 0.
func TestLookingBehindNoCell(t *testing.T) {
	for _, c := range right() {
		cells := make([]api.Word, sizeOf(c))
		for at := range cells {
			cells[at] = 1
		}
		for _, l := range [][]api.Word{mixed(c), make([]api.Word, sizeOf(c)), cells} {
			h := from(t, c, l...)
			for k, first := range append(beyond(c), noCells()...) {
				x := on(busy()[k%len(busy())], 35, first, 9)
				h.Load(api.AtGate)
				mustStep(t, h, x, full(x, first, 0), true, api.Access{}, l)
				h.Access = stray()
				mustStep(t, h, x, full(x, first, 0), true, api.Access{}, l)
			}
		}
	}
	for _, b := range busy() {
		l := mixed(some)
		mustStep(t, from(t, some, l...), on(b, 35, 4, 3), full(b, 4, 0), true, api.Access{}, l)
	}
}

// The line 36, whatever N is, and whatever was in free, in H, in P and in Back.
func TestTaking(t *testing.T) {
	for _, c := range right() {
		for k, behind := range words(c) {
			for j, free := range []api.Word{0, 1, 3, behind, last} {
				l := with(mixed(c), 0, free)
				h := from(t, c, l...)
				x := on(busy()[(j+k)%len(busy())], 36, free, behind)
				h.Access = stray()
				mustStep(t, h, x, taken(x, free, behind), true, taking(behind, free), with(l, 0, behind))
			}
		}
	}
}

func TestTakingKeepsTheRest(t *testing.T) {
	for _, b := range busy() {
		for _, behind := range words(some) {
			for _, first := range []api.Word{0, 1, 4, 11, last} {
				l := with(mixed(some), 0, 3)
				mustStep(t, from(t, some, l...), on(b, 36, first, behind), taken(b, first, behind), true, taking(behind, 3), with(l, 0, behind))
			}
		}
	}
}

// By hand: a cell, one that the map hasn't, nil, an atom, and the greatest word.
func TestTakingByHand(t *testing.T) {
	for _, c := range []struct {
		behind, shaded api.Word
		line, back     int
	}{
		{3, 3, 80, 37}, {1, 1, 80, 37}, {9, 9, 80, 37}, {8191, 8191, 80, 37}, {8193, 0, 37, 0}, {0, 0, 37, 0}, {4, 0, 37, 0}, {last, 0, 37, 0},
	} {
		x := api.Mut{Line: 36, H: 1, N: c.behind, P: 5, Back: 90, Ret: api.RetOK}
		want := api.Mut{Line: c.line, H: 1, N: c.behind, P: c.shaded, Back: c.back, Ret: api.RetOK}
		l := with(mixed(least), 0, 1)
		mustStep(t, from(t, least, l...), x, want, true, api.Access{Kind: api.AStore, At: 0, X: c.behind, Old: 1}, with(l, 0, c.behind))
	}
}

// On other lines nothing is done, and the access of an earlier step stays as well.
func TestOtherLines(t *testing.T) {
	for _, l := range [][]api.Word{mixed(some), make([]api.Word, sizeOf(some)), listed(some, 0, 1, 2, 3, 4)} {
		h := from(t, some, l...)
		for _, did := range []api.Access{{}, {Kind: api.ALoad, At: 0, Old: 1}, stray()} {
			h.Access = did
			for _, b := range busy() {
				for _, line := range otherLines() {
					for _, w := range []api.Word{b.H, 0, 1, 3} {
						mustRefuse(t, h, on(b, line, w, w))
						mustHave(t, fmt.Sprintf("on the line %d", line), h, did, l)
					}
				}
			}
		}
	}
}

func TestNilHand(t *testing.T) {
	for _, b := range busy() {
		for _, line := range append(otherLines(), ownLines()...) {
			for _, w := range words(some) {
				mustRefuse(t, nil, on(b, line, w, w))
			}
		}
	}
}

// A hand that has no places can do no access: what is loaded is 0.
func TestHandsWithoutPlaces(t *testing.T) {
	for name, h := range map[string]*hand.Hand{
		"a zero hand": {},
		"no arena":    {Map: place.Map{Config: some}},
		"no words":    {Arena: arena.New()},
		"neither":     {Arena: arena.New(), Map: place.Map{Config: some}},
	} {
		for _, b := range busy() {
			for _, c := range []struct {
				x, want api.Mut
				lin     bool
			}{
				{on(b, 34, 7, 9), on(b, 35, 0, 9), false},
				{on(b, 35, 1, 9), full(b, 1, 0), true},
				{on(b, 35, 4, 9), full(b, 4, 0), true},
				{on(b, 36, 7, 3), taken(b, 7, 3), true},
				{on(b, 36, 7, 4), taken(b, 7, 4), true},
			} {
				h.Access = stray()
				if got, lin, ok := pop.Step(h, c.x); !ok || got != c.want || lin != c.lin || h.Access != (api.Access{}) {
					t.Errorf("%s: Step(%+v) = %+v, %v, %v, not %+v, %v, and the access %+v", name, c.x, got, lin, ok, c.want, c.lin, h.Access)
				}
			}
			for _, line := range otherLines() {
				mustRefuse(t, h, on(b, line, 1, 3))
			}
		}
	}
}

// Each step's access takes the place of the one that stood there.
func TestAccessIsThatOfTheStep(t *testing.T) {
	l := listed(some, 4, 2)
	h := from(t, some, l...)
	mustStep(t, h, api.Mut{Line: 34}, api.Mut{Line: 35, H: 9}, false, heading(9), l)
	mustStep(t, h, api.Mut{Line: 35, H: 11}, api.Mut{Line: 41, H: 11, Ret: api.RetFull}, true, api.Access{}, l)
	mustStep(t, h, api.Mut{Line: 35, H: 9}, api.Mut{Line: 36, H: 9, N: 5}, false, looking(cdrAt(some, 4), 5), l)
	mustStep(t, h, api.Mut{Line: 35}, api.Mut{Line: 41, Ret: api.RetFull}, true, api.Access{}, l)
	mustStep(t, h, api.Mut{Line: 36, N: 4}, api.Mut{Line: 37, N: 4}, true, taking(4, 9), with(l, 0, 4))
	mustStep(t, h, api.Mut{Line: 34}, api.Mut{Line: 35, H: 4}, false, heading(4), with(l, 0, 4))
}

// P13.2

// counted are the numbers from 0 on.
func counted(n int) []int {
	l := make([]int, n)
	for i := range l {
		l[i] = i
	}
	return l
}

// orders are all free lists of up to n cells: each choice of them, in each order.
func orders(n int, ahead ...int) [][]int {
	var l [][]int
	if len(ahead) > 0 {
		l = append(l, ahead)
	}
	for i := range n {
		if !slices.Contains(ahead, i) {
			l = append(l, orders(n, append(slices.Clone(ahead), i)...)...)
		}
	}
	return l
}

// told is the free list from a word on as the chapter says it, of the cells that weren't met yet.
func told(c api.Config, l []api.Word, w api.Word, met ...int) ([]int, bool) {
	i := int(w / 2)
	switch {
	case w == 0:
		return nil, len(met) > 0
	case !isCell(w), i >= c.Cells, slices.Contains(met, i):
		return nil, false
	}
	behind, ok := told(c, l, l[cdrAt(c, i)], append(slices.Clone(met), i)...)
	return append([]int{i}, behind...), ok
}

func TestListAtFirst(t *testing.T) {
	for _, c := range right() {
		mustList(t, c, place.First(c), counted(c.Cells)...)
	}
}

// By hand, of three cells, with nothing else in memory: free, and the three cdrs.
func TestListByHand(t *testing.T) {
	for _, c := range []struct {
		words [4]api.Word
		want  []int
	}{
		{[4]api.Word{1, 3, 5, 0}, []int{0, 1, 2}},
		{[4]api.Word{3, 3, 5, 0}, []int{1, 2}},
		{[4]api.Word{5, 3, 5, 0}, []int{2}},
		{[4]api.Word{5, 0, 1, 3}, []int{2, 1, 0}},
		{[4]api.Word{1, 5, 1, 0}, []int{0, 2}},
		{[4]api.Word{1, 0, 1, 3}, []int{0}},
		{[4]api.Word{3, last, 0, 7}, []int{1}},
		{[4]api.Word{0, 3, 5, 0}, nil},
		{[4]api.Word{0, 0, 0, 0}, nil},
		{[4]api.Word{2, 3, 5, 0}, nil},
		{[4]api.Word{7, 3, 5, 0}, nil},
		{[4]api.Word{8193, 3, 5, 0}, nil},
		{[4]api.Word{last, 3, 5, 0}, nil},
		{[4]api.Word{1, 2, 5, 0}, nil},
		{[4]api.Word{1, 3, 4, 0}, nil},
		{[4]api.Word{1, 3, 5, 6}, nil},
		{[4]api.Word{1, 3, 7, 0}, nil},
		{[4]api.Word{1, 3, 5, 8191}, nil},
		{[4]api.Word{1, 3, 5, 8193}, nil},
		{[4]api.Word{1, 3, 5, last}, nil},
		{[4]api.Word{1, 1, 5, 0}, nil},
		{[4]api.Word{1, 3, 1, 0}, nil},
		{[4]api.Word{1, 3, 3, 0}, nil},
		{[4]api.Word{1, 3, 5, 1}, nil},
		{[4]api.Word{1, 3, 5, 3}, nil},
		{[4]api.Word{1, 3, 5, 5}, nil},
	} {
		l := []api.Word{c.words[0], 0, 0, 0, 0, 0, 0, 0, c.words[1], 0, 0, c.words[2], 0, 0, c.words[3], 0}
		if c.want == nil {
			mustBeNoList(t, three, l)
		} else {
			mustList(t, three, l, c.want...)
		}
	}
}

// Lists of one cell, of some, and of all, in any order: what other words and other cells have plays no part.
func TestListInAnyOrder(t *testing.T) {
	lists := orders(some.Cells)
	if len(lists) != 325 {
		t.Fatalf("%d lists", len(lists))
	}
	for _, cells := range lists {
		mustList(t, some, listed(some, cells...), cells...)
	}
}

// All cells of the greatest memories, backwards and by leaps, and each end by itself.
func TestLongLists(t *testing.T) {
	for _, c := range []api.Config{most, {Cells: 4096, Muts: 1, Regs: 1}, {Cells: 4095, Muts: 2, Regs: 3, Globs: 1}} {
		backwards := counted(c.Cells)
		slices.Reverse(backwards)
		mustList(t, c, listed(c, backwards...), backwards...)
		leaps := counted(c.Cells)
		for k := range leaps {
			leaps[k] = k * 1237 % c.Cells
		}
		mustList(t, c, listed(c, leaps...), leaps...)
		mustList(t, c, listed(c, leaps[1:]...), leaps[1:]...)
		mustList(t, c, listed(c, 0), 0)
		mustList(t, c, listed(c, c.Cells-1), c.Cells-1)
		mustBeNoList(t, c, with(listed(c, leaps...), cdrAt(c, leaps[c.Cells-1]), cell(leaps[c.Cells-1])))
		mustBeNoList(t, c, with(listed(c, leaps...), cdrAt(c, leaps[c.Cells-1]), 1))
	}
}

// All memories of three cells with these words in free and the cdrs, held against the chapter's words.
func TestAllSmallMemories(t *testing.T) {
	of := []api.Word{0, 1, 3, 5, 7, 4, 8191, 8193, last}
	lists := 0
	for n := range len(of) * len(of) * len(of) * len(of) {
		l := mixed(three)
		for _, at := range []int{0, 8, 11, 14} {
			l[at] = of[n%len(of)]
			n /= len(of)
		}
		want, ok := told(three, l, l[0])
		if !ok {
			mustBeNoList(t, three, l)
			continue
		}
		mustList(t, three, l, want...)
		lists++
	}
	// Three lists of one cell leave two cdrs to chance, six of two cells one, and six have all.
	if want := 3*len(of)*len(of) + 6*len(of) + 6; lists != want {
		t.Errorf("%d lists, not %d", lists, want)
	}
}

// A free that is no cell of the map has no list, whatever lies behind it.
func TestFreeIsNoCell(t *testing.T) {
	for _, c := range right() {
		for _, l := range [][]api.Word{listed(c, 0), listed(c, counted(c.Cells)...), mixed(c), make([]api.Word, sizeOf(c))} {
			for _, w := range append(beyond(c), noCells()...) {
				mustBeNoList(t, c, with(l, 0, w))
			}
		}
	}
}

// A cdr on the way that is neither a cell of the map nor nil: of the first cell, of one on the way, and of the last one.
func TestCdrIsNoCell(t *testing.T) {
	for _, cells := range orders(some.Cells) {
		l := listed(some, cells...)
		for _, i := range cells {
			for _, w := range append(beyond(some), noCells()...) {
				if w != 0 {
					mustBeNoList(t, some, with(l, cdrAt(some, i), w))
				}
			}
		}
	}
}

// A cdr that is nil ends the list there.
func TestCdrIsNil(t *testing.T) {
	for _, cells := range orders(some.Cells) {
		for k, i := range cells {
			mustList(t, some, with(listed(some, cells...), cdrAt(some, i), 0), cells[:k+1]...)
		}
	}
}

// Lists that come round: to their first cell, to one on the way, and to the last one itself.
func TestCellsTwice(t *testing.T) {
	for _, cells := range orders(some.Cells) {
		for k, i := range cells {
			for _, again := range cells[:k+1] {
				mustBeNoList(t, some, with(listed(some, cells...), cdrAt(some, i), cell(again)))
			}
		}
	}
}

// No words, too few of them, and too many.
func TestListOfOtherCounts(t *testing.T) {
	for _, c := range right() {
		l := listed(c, 0)
		size := len(l)
		for _, n := range []int{0, 1, 5, size / 2, size - 3, size - 2, size - 1} {
			mustBeNoList(t, c, l[:n])
		}
		for _, n := range []int{1, 2, 3, size} {
			mustBeNoList(t, c, append(slices.Clone(l), make([]api.Word, n)...))
		}
		mustList(t, c, l, 0)
		if got, ok := pop.List(c); ok || len(got) != 0 {
			t.Errorf("List(%v) of no words = %v, %v", c, got, ok)
		}
	}
}

// The words of one memory aren't those of another, though their number may be the same.
func TestListOfOtherMemories(t *testing.T) {
	for _, c := range right() {
		for _, d := range right() {
			if sizeOf(c) != sizeOf(d) {
				mustBeNoList(t, c, place.First(d))
			}
		}
	}
	// A cell has as many words as three globs: the same words have other cdrs.
	c, d := api.Config{Cells: 3, Muts: 1, Regs: 1, Globs: 0}, api.Config{Cells: 2, Muts: 1, Regs: 1, Globs: 3}
	mustList(t, c, place.First(c), 0, 1, 2)
	mustBeNoList(t, d, place.First(c))
	mustList(t, d, place.First(d), 0, 1)
	mustList(t, c, place.First(d), 0)
}

// Configurations that aren't right have no list: with no words, those of right ones, and as many as they would have.
func TestListOfWrongConfigs(t *testing.T) {
	var rows [][]api.Word
	for _, c := range right() {
		rows = append(rows, nil, []api.Word{1, 0, 0, 0}, place.First(c))
	}
	for _, c := range wrong() {
		for _, l := range rows {
			mustBeNoList(t, c, l)
		}
	}
	for _, c := range right() {
		for _, d := range nearly(c) {
			l := make([]api.Word, max(0, sizeOf(d)))
			if len(l) > 0 {
				l[0] = 1
			}
			mustBeNoList(t, d, l)
		}
	}
}

// What is answered is new, and what lies behind the words in their memory isn't looked at.
func TestListKeepsNothing(t *testing.T) {
	long := append(listed(some, 3, 1, 4), 1, 3, 5)
	was := slices.Clone(long)
	l := long[:sizeOf(some)]
	got, ok := pop.List(some, l...)
	if !ok || !slices.Equal(got, []int{3, 1, 4}) || !slices.Equal(long, was) {
		t.Fatalf("List = %v, %v, and the words are %v", got, ok, long)
	}
	got[0], got[1] = 7, 8
	_ = append(got, 9, 10, 11, 12)
	if !slices.Equal(long, was) {
		t.Fatalf("writing over the answer has made %v of the words", long)
	}
	mustList(t, some, l, 3, 1, 4)
	got, _ = pop.List(some, l...)
	l[0] = 0
	if !slices.Equal(got, []int{3, 1, 4}) {
		t.Fatalf("writing over the words has made %v of the answer", got)
	}
	mustBeNoList(t, some, l)
	mustBeNoList(t, some, long[:sizeOf(some)-1])
}

// P13.3

// mustTake takes the first cell of a list, holding everything against the list of the others.
func mustTake(t *testing.T, h *hand.Hand, b api.Mut, cells ...int) {
	t.Helper()
	l := h.All()
	first, second := cell(cells[0]), cell(cells[1])
	x := on(b, 34, b.H, b.N)
	mustStep(t, h, x, on(b, 35, first, b.N), false, heading(first), l)
	mustList(t, h.Config, h.All(), cells...)
	x = on(b, 35, first, b.N)
	mustStep(t, h, x, on(b, 36, first, second), false, looking(cdrAt(h.Config, cells[0]), second), l)
	mustList(t, h.Config, h.All(), cells...)
	x = on(b, 36, first, second)
	mustStep(t, h, x, taken(b, first, second), true, taking(second, first), with(l, 0, second))
	mustList(t, h.Config, h.All(), cells[1:]...)
}

// mustBeFull finds no cell in a list of one, and holds it that nothing is changed.
func mustBeFull(t *testing.T, h *hand.Hand, b api.Mut, only int) {
	t.Helper()
	l := h.All()
	x := on(b, 34, b.H, b.N)
	mustStep(t, h, x, on(b, 35, cell(only), b.N), false, heading(cell(only)), l)
	x = on(b, 35, cell(only), b.N)
	mustStep(t, h, x, full(b, cell(only), 0), true, looking(cdrAt(h.Config, only), 0), l)
	mustList(t, h.Config, h.All(), only)
}

// mustTakeAll takes cells over and over, down to the last one, which is found not to be there for taking.
func mustTakeAll(t *testing.T, c api.Config, cells ...int) {
	t.Helper()
	h := from(t, c, listed(c, cells...)...)
	mustList(t, c, h.All(), cells...)
	for k := range len(cells) - 1 {
		mustTake(t, h, busy()[k%len(busy())], cells[k:]...)
	}
	for _, b := range busy() {
		mustBeFull(t, h, b, cells[len(cells)-1])
	}
	// Nothing but free has changed since the beginning.
	if got, want := h.All(), with(listed(c, cells...), 0, cell(cells[len(cells)-1])); !slices.Equal(got, want) {
		t.Fatalf("behind taking %v all words are %v, not %v", cells, got, want)
	}
}

// Lists of one cell, of two and of more, in any order.
func TestTakingOverAndOver(t *testing.T) {
	for _, cells := range orders(some.Cells) {
		mustTakeAll(t, some, cells...)
	}
	for _, c := range right() {
		mustTakeAll(t, c, 0)
		mustTakeAll(t, c, c.Cells-1)
		mustTakeAll(t, c, 0, c.Cells-1)
		mustTakeAll(t, c, c.Cells-1, 0)
	}
}

// From the words at first on: the cells come off in order, and the last one stays.
func TestTakingFromFirstOn(t *testing.T) {
	for _, c := range []api.Config{least, three, some, {Cells: 300, Muts: 2, Regs: 1}} {
		h, e := hand.New(c)
		if e != api.OK {
			t.Fatal(e)
		}
		for i := range c.Cells - 1 {
			mustTake(t, h, api.Mut{}, counted(c.Cells)[i:]...)
		}
		mustBeFull(t, h, api.Mut{}, c.Cells-1)
		mustBeFull(t, h, api.Mut{}, c.Cells-1)
	}
}

// What was found is gone on with: the cell is shaded that is the first one from then on.
func TestTheNewFirstCellIsShaded(t *testing.T) {
	h, e := hand.New(three)
	if e != api.OK {
		t.Fatal(e)
	}
	x, _, _ := pop.Step(h, api.Mut{Line: 36, H: 1, N: 3})
	x, ok := barrier.Step(h, x)
	if !ok || x != (api.Mut{Line: 81, H: 1, N: 3, Back: 37}) {
		t.Fatalf("behind the line 80: %+v, %v", x, ok)
	}
	x, ok = barrier.Step(h, x)
	if !ok || x != (api.Mut{Line: 37, H: 1, N: 3}) {
		t.Fatalf("behind the line 81: %+v, %v", x, ok)
	}
	if got, want := h.All(), []api.Word{3, 0, 1, 0, 0, 0, 0, 0, 3, 0, 0, 5, 1, 0, 0, 0}; !slices.Equal(got, want) {
		t.Fatalf("all words are %v, not %v", got, want)
	}
	mustList(t, three, h.All(), 1, 2)
}

// yard is where mutators take cells, each under the lock.
type yard struct {
	h    *hand.Hand
	muts []api.Mut
}

// newYard has n mutators that all are to draw a ticket, and a free list of these cells.
func newYard(t *testing.T, c api.Config, cells ...int) *yard {
	t.Helper()
	l := make([]api.Word, sizeOf(c))
	copy(l[firstCell(c):], listed(c, cells...)[firstCell(c):])
	l[0] = cell(cells[0])
	y := &yard{from(t, c, l...), make([]api.Mut, c.Muts)}
	for m := range y.muts {
		y.muts[m].Line = 32
	}
	return y
}

func (y *yard) clone(t *testing.T) *yard {
	t.Helper()
	return &yard{from(t, y.h.Config, y.h.All()...), slices.Clone(y.muts)}
}

// step does a line of whichever layer has it; false: the mutator is over.
func (y *yard) step(m int) (lin, ok bool) {
	x := y.muts[m]
	if x.Line == 38 || x.Line == 90 {
		return false, false
	}
	if next, lin, ok := pop.Step(y.h, x); ok {
		y.muts[m] = next
		return lin, true
	}
	next, ok := ticket.Step(y.h, x)
	if !ok {
		next, ok = barrier.Step(y.h, x)
	}
	y.muts[m] = next
	return false, ok
}

// mustTakeOne does a step, and holds it that the list is changed by linearising steps alone.
func (y *yard) mustTakeOne(t *testing.T, m int) bool {
	t.Helper()
	ahead, _ := pop.List(y.h.Config, y.h.All()...)
	line := y.muts[m].Line
	lin, ok := y.step(m)
	if !ok {
		return false
	}
	x, want := y.muts[m], ahead
	switch {
	case lin != (line == 36 || line == 35 && x.Line == 41):
		t.Fatalf("the step of the line %d to %+v: %v", line, x, lin)
	case lin && x.Ret == api.RetFull && len(ahead) != 1:
		t.Fatalf("%d has found no cell among %v", m, ahead)
	case lin && x.Ret != api.RetFull:
		if x.H != cell(ahead[0]) {
			t.Fatalf("%d has taken %d, not the first one of %v", m, x.H, ahead)
		}
		want = ahead[1:]
	}
	mustList(t, y.h.Config, y.h.All(), want...)
	return true
}

// mustBeOver holds it that no cell was taken twice, and that none was left but the last one, or those that nobody wanted.
func (y *yard) mustBeOver(t *testing.T, cells ...int) {
	t.Helper()
	var off []int
	for _, x := range y.muts {
		switch x.Line {
		case 38:
			off = append(off, int(x.H/2))
		case 90:
			if x.Ret != api.RetFull {
				t.Fatalf("who found no cell is %+v", x)
			}
		}
	}
	slices.Sort(off)
	took := min(len(y.muts), len(cells)-1)
	want := slices.Clone(cells[:took])
	slices.Sort(want)
	if !slices.Equal(off, want) {
		t.Fatalf("of %v %v were taken, not %v: %+v", cells, off, want, y.muts)
	}
	mustList(t, y.h.Config, y.h.All(), cells[took:]...)
}

// All orders of the steps of up to three mutators: each finds a cell, or the list has one just then.
func TestAllOrders(t *testing.T) {
	for _, muts := range []int{1, 2, 3} {
		c := api.Config{Cells: 4, Muts: muts, Regs: 1}
		for _, cells := range [][]int{{2}, {3, 1}, {0, 2, 1}, {3, 2, 1, 0}} {
			seen, todo, ends := map[string]bool{}, []*yard{newYard(t, c, cells...)}, 0
			for len(todo) > 0 {
				y := todo[len(todo)-1]
				todo = todo[:len(todo)-1]
				over := true
				for m := range muts {
					next := y.clone(t)
					if !next.mustTakeOne(t, m) {
						continue
					}
					over = false
					if key := fmt.Sprint(next.muts, next.h.All()); !seen[key] {
						seen[key] = true
						todo = append(todo, next)
					}
				}
				if over {
					y.mustBeOver(t, cells...)
					ends++
				}
			}
			if ends == 0 {
				t.Fatalf("%d mutators with %v never are over, in %d states", muts, cells, len(seen))
			}
		}
	}
}

// P1, and each answer at all arguments, held against the chapter's words.
func FuzzCalls(f *testing.F) {
	f.Add(3, 34, uint64(1), uint64(1), uint64(3), uint64(5), uint64(0), 0)
	f.Add(3, 35, uint64(1), uint64(1), uint64(3), uint64(1), uint64(0), 0)
	f.Add(2, 35, uint64(3), uint64(1), uint64(4), uint64(4), uint64(0), 1)
	f.Add(5, 36, uint64(9), uint64(8193), uint64(3), uint64(0), uint64(7), -1)
	f.Add(4, 36, uint64(5), uint64(9), uint64(1), uint64(8191), uint64(math.MaxUint64), 3)
	f.Add(2, math.MinInt, uint64(math.MaxUint64), uint64(0), uint64(1)<<63, uint64(2), uint64(6), math.MaxInt)
	f.Fuzz(func(t *testing.T, cells, line int, first, behind, free, some, other uint64, count int) {
		c := api.Config{Cells: 2 + int(uint(cells)%64), Muts: 2, Regs: 3, Globs: 1}
		l := mixed(c)
		l[0] = api.Word(free)
		for i := range c.Cells {
			l[cdrAt(c, i)] = api.Word([]uint64{some, other, uint64(2*i + 3), uint64(2*i - 1), 0}[i%5])
		}
		x := on(busy()[1], line, api.Word(first), api.Word(behind))
		mustRefuse(t, nil, x)
		if want, ok := told(c, l, l[0]); ok {
			mustList(t, c, l, want...)
		} else {
			mustBeNoList(t, c, l)
		}
		if n := int(uint(count) % uint(len(l))); n < len(l) {
			mustBeNoList(t, c, l[:n])
		}
		pop.List(api.Config{Cells: cells, Muts: line, Regs: count, Globs: cells}, l...)
		h := from(t, c, l...)
		there := first%2 == 1 && first/2 < uint64(c.Cells)
		switch {
		case line == 34:
			mustStep(t, h, x, on(x, 35, api.Word(free), x.N), false, heading(api.Word(free)), l)
		case line == 36:
			mustStep(t, h, x, taken(x, x.H, x.N), true, taking(x.N, api.Word(free)), with(l, 0, x.N))
		case line != 35:
			mustRefuse(t, h, x)
			mustHave(t, "on another line", h, api.Access{}, l)
		case !there:
			mustStep(t, h, x, full(x, x.H, 0), true, api.Access{}, l)
		case isCell(l[cdrAt(c, int(first/2))]):
			at := cdrAt(c, int(first/2))
			mustStep(t, h, x, on(x, 36, x.H, l[at]), false, looking(at, l[at]), l)
		default:
			at := cdrAt(c, int(first/2))
			mustStep(t, h, x, full(x, x.H, l[at]), true, looking(at, l[at]), l)
		}
	})
}
