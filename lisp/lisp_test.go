package lisp_test

import (
	"fmt"
	"math"
	"slices"
	"testing"

	"mudlark/api"
	"mudlark/arena"
	"mudlark/barrier"
	"mudlark/gate"
	"mudlark/hand"
	"mudlark/ideal"
	"mudlark/lisp"
	"mudlark/place"
	"mudlark/pop"
	"mudlark/ticket"
)

const last = api.Word(math.MaxUint64)

var (
	least = api.Config{Cells: 2, Muts: 1, Regs: 1, Globs: 0}
	some  = api.Config{Cells: 5, Muts: 2, Regs: 3, Globs: 2}
	more  = api.Config{Cells: 9, Muts: 3, Regs: 4, Globs: 3}
	most  = api.Config{Cells: 4096, Muts: 63, Regs: 64, Globs: 64}
)

func cell(i int) api.Word {
	return api.Word(2*i + 1)
}

// isCell tells what a cell is, as chapter 1 has it.
func isCell(w api.Word) bool {
	return w%2 == 1 && w/2 < 4096
}

// values are words that a place may have: cells of a map, of a greater one, nil, atoms, and words that are neither.
func values(c api.Config) []api.Word {
	l := []api.Word{1, 3, cell(c.Cells / 2), cell(c.Cells - 1), 0, 2, 4, 10, 8192, 1 << 63, last - 1, 8193, 1<<32 + 1, last}
	if c.Cells < 4096 {
		l = append(l, cell(c.Cells), 8191)
	}
	return l
}

// absent are numbers of which there aren't so many.
func absent(count int) []int {
	return []int{-1, -2, -64, -1 << 32, math.MinInt, math.MinInt + 1, count, count + 1, count + 64, 1 << 32, math.MaxInt - 1, math.MaxInt}
}

// row is a row of the chapter's table: what is loaded into a field, or stored out of it, where, and what comes then.
type row struct {
	line  int
	kinds []int
	load  byte // A or B; 0: it is a store
	store byte // A, B, H or k, the atom Op.B
	at    string
	lin   bool
	ret   int  // 0: it is kept
	shade byte // 0: nothing is to be shaded
	to    int
}

// table is the chapter's table. (What hangs on what was loaded is in hanging.)
func table() []row {
	return []row{
		{line: 10, kinds: []int{1}, store: 'k', at: "reg A", lin: true, ret: 1, to: 90},
		{line: 11, kinds: []int{2}, load: 'A', at: "reg B", to: 12},
		{line: 12, kinds: []int{2}, store: 'A', at: "reg A", lin: true, ret: 1, shade: 'A', to: 90},
		{line: 13, kinds: []int{4, 5}, load: 'A', at: "reg B", to: 14},
		{line: 14, kinds: []int{4, 5}, load: 'B', at: "part A", lin: true, to: 15},
		{line: 15, kinds: []int{4, 5, 8}, store: 'B', at: "reg A", ret: 1, shade: 'B', to: 90},
		{line: 16, kinds: []int{6, 7}, load: 'A', at: "reg A", to: 17},
		{line: 17, kinds: []int{6, 7}, load: 'B', at: "reg B", to: 18},
		{line: 18, kinds: []int{6, 7}, store: 'B', at: "part A", lin: true, ret: 1, shade: 'B', to: 90},
		{line: 19, kinds: []int{8}, load: 'B', at: "glob B", lin: true, to: 15},
		{line: 20, kinds: []int{9}, load: 'B', at: "reg B", to: 21},
		{line: 21, kinds: []int{9}, store: 'B', at: "glob A", lin: true, ret: 1, shade: 'B', to: 90},
		{line: 22, kinds: []int{10}, load: 'A', at: "reg A", to: 23},
		{line: 23, kinds: []int{10}, load: 'B', at: "reg B", lin: true, to: 90},
		{line: 24, kinds: []int{11}, load: 'A', at: "reg A", lin: true, to: 90},
		{line: 30, kinds: []int{3}, load: 'A', at: "reg B", to: 31},
		{line: 31, kinds: []int{3}, load: 'B', at: "reg C", to: 32},
		{line: 38, kinds: []int{3}, store: 'A', at: "car H", shade: 'A', to: 39},
		{line: 39, kinds: []int{3}, store: 'B', at: "cdr H", shade: 'B', to: 40},
		{line: 40, kinds: []int{3}, store: 'H', at: "reg A", ret: 1, shade: 'H', to: 90},
	}
}

// allKinds are all kinds of operations, and numbers of none.
func allKinds() []int {
	return []int{1, 2, 3, 4, 5, 6, 7, 8, 9, 10, 11, 0, 12, -1, -4, 1<<32 + 4, 1<<32 + 6, math.MinInt, math.MaxInt}
}

// lowerLines are the lines of layers 10 to 13.
func lowerLines() []int {
	return []int{1, 2, 3, 4, 5, 6, 90, 80, 81, 32, 33, 37, 41, 34, 35, 36}
}

// noLines are lines that there aren't.
func noLines() []int {
	l := []int{
		0, 7, 8, 9, 25, 26, 29, 42, 43, 64, 79, 82, 83, 89, 91, 92, 100, 110, 256 + 10, 256 + 90, 1010,
		-1, -2, -10, -15, -24, -30, -40, -80, -90, 1<<32 + 1, 1<<32 + 10, 1<<32 + 15, 1<<32 + 40, 1<<32 + 90,
		math.MinInt, math.MinInt + 10, math.MinInt + 90, math.MaxInt - 1, math.MaxInt,
	}
	for line := -100; line < 300; line++ {
		if line < 1 || line > 6 && line < 10 || line > 24 && line < 30 || line > 41 && line < 80 || line > 81 && line != 90 {
			l = append(l, line)
		}
	}
	return l
}

// allLines are all lines that there are, and some that there aren't.
func allLines() []int {
	l := slices.Concat(lowerLines(), noLines())
	for _, r := range table() {
		l = append(l, r.line)
	}
	return l
}

// busy are mutators with nothing, with something in each field, and with the greatest numbers there.
func busy() []api.Mut {
	least := math.MinInt
	return []api.Mut{
		{},
		{Line: 18, Op: api.Op{Kind: 6, A: 1, B: 2, C: 0}, A: 7, B: 9, H: 5, N: 13, T: 15, P: 17, Back: 19, Ret: api.RetFalse},
		{Line: 80, Op: api.Op{Kind: 4, A: 0, B: 1, C: 2}, A: 1, B: 4, H: 3, N: 4, T: 5, P: 1, Back: 37, Ret: api.RetFull},
		{Line: least, Op: api.Op{Kind: least, A: 2, B: 0, C: 1}, A: last, B: last, H: last, N: last, T: last, P: last, Back: least, Ret: least},
	}
}

// globAt and what follows are places, as chapter 4 has them: -1 of what isn't there.
func globAt(c api.Config, g int) int {
	if g < 0 || g >= c.Globs {
		return -1
	}
	return 5 + c.Muts + g
}

func regAt(c api.Config, m, r int) int {
	if m < 0 || m >= c.Muts || r < 0 || r >= c.Regs {
		return -1
	}
	return 5 + c.Muts + c.Globs + m*c.Regs + r
}

func firstCell(c api.Config) int {
	return 5 + c.Muts + c.Globs + c.Muts*c.Regs
}

func sizeOf(c api.Config) int {
	return firstCell(c) + 3*c.Cells
}

func partAt(c api.Config, w api.Word, part int) int {
	if w%2 == 0 || w/2 >= api.Word(c.Cells) {
		return -1
	}
	return firstCell(c) + 3*int(w/2) + part
}

// placeOf is the place that a row of the table names.
func placeOf(c api.Config, m int, x api.Mut, at string) int {
	part := 1
	if x.Op.Kind == 4 || x.Op.Kind == 6 {
		part = 0
	}
	switch at {
	case "reg A":
		return regAt(c, m, x.Op.A)
	case "reg B":
		return regAt(c, m, x.Op.B)
	case "reg C":
		return regAt(c, m, x.Op.C)
	case "glob A":
		return globAt(c, x.Op.A)
	case "glob B":
		return globAt(c, x.Op.B)
	case "part A":
		return partAt(c, x.A, part)
	case "car H":
		return partAt(c, x.H, 0)
	}
	return partAt(c, x.H, 1)
}

// valueOf is what a field has: k is the atom Op.B.
func valueOf(x api.Mut, field byte) api.Word {
	switch field {
	case 'A':
		return x.A
	case 'B':
		return x.B
	case 'H':
		return x.H
	}
	if x.Op.B < 0 {
		return 0
	}
	return api.Word(x.Op.B) * 2
}

// end is what a step comes to: how far one is then, its access, and all words.
type end struct {
	next  api.Mut
	lin   bool
	did   api.Access
	words []api.Word
}

// told is what a row of the chapter's table tells of a step.
func told(c api.Config, l []api.Word, m int, x api.Mut, r row) end {
	e := end{lin: r.lin, words: l}
	at := placeOf(c, m, x, r.at)
	there := at >= 0 && at < len(l)
	switch {
	case r.load == 0 && there:
		v := valueOf(x, r.store)
		e.did = api.Access{Kind: api.AStore, At: at, X: v, Old: l[at]}
		e.words = with(l, at, v)
	case r.load != 0 && there:
		e.did = api.Access{Kind: api.ALoad, At: at, Old: l[at]}
	}
	switch r.load {
	case 'A':
		x.A = e.did.Old
	case 'B':
		x.B = e.did.Old
	}
	x.Line = r.to
	if r.ret != 0 {
		x.Ret = r.ret
	}
	if r.shade != 0 {
		x.P, x.Back = 0, 0
		if v := valueOf(x, r.shade); isCell(v) {
			x.Line, x.P, x.Back = 80, v, r.to
		}
	}
	e.next = x
	return hanging(e, r)
}

// hanging is what hangs on what was loaded.
func hanging(e end, r row) end {
	switch r.line {
	case 13, 16:
		if !isCell(e.next.A) {
			e.lin, e.next.Ret, e.next.Line = true, api.RetAtom, 90
		}
	case 23:
		e.next.Ret = api.RetFalse
		if e.next.A == e.next.B {
			e.next.Ret = api.RetTrue
		}
	case 24:
		e.next.Ret = api.RetTrue
		if isCell(e.next.A) {
			e.next.Ret = api.RetFalse
		}
	}
	return e
}

// mixed are the words of a memory, no two of which are alike: a word that is changed is seen.
func mixed(c api.Config) []api.Word {
	l := make([]api.Word, sizeOf(c))
	for at := range l {
		l[at] = api.Word(at+1) * 0x9e3779b97f4a7c15
	}
	return l
}

// with are words of which one is another one.
func with(l []api.Word, at int, x api.Word) []api.Word {
	l = slices.Clone(l)
	l[at] = x
	return l
}

func from(t *testing.T, c api.Config, l ...api.Word) *hand.Hand {
	t.Helper()
	h, e := hand.From(c, l...)
	if h == nil || e != api.OK {
		t.Fatalf("From(%v) of %d words = %v, %d", c, len(l), h, e)
	}
	return h
}

// stray is an access that no step does: what a step leaves of it is seen.
func stray() api.Access {
	return api.Access{Kind: 99, At: 98, X: 97, Y: 96, Old: 95}
}

// mustHave holds the access and all words of a hand against what they must be.
func mustHave(t *testing.T, what string, h *hand.Hand, x api.Access, want []api.Word) {
	t.Helper()
	if h.Access != x {
		t.Fatalf("%s: the access is %+v, not %+v", what, h.Access, x)
	}
	if got := h.All(); !slices.Equal(got, want) {
		t.Fatalf("%s: all words are %v, not %v", what, got, want)
	}
}

// mustStep does a line, and holds its answer, the access and all words against what they must be.
func mustStep(t *testing.T, h *hand.Hand, m int, x api.Mut, want end) {
	t.Helper()
	c := h.Config
	h.Access = stray()
	next, lin, done := lisp.Step(h, m, x)
	if next != want.next || lin != want.lin || done != (want.next.Line == 0) {
		t.Fatalf("%v: Step(%d, %+v) = %+v, %v, %v, not %+v, %v", c, m, x, next, lin, done, want.next, want.lin)
	}
	mustHave(t, fmt.Sprintf("%v: behind %+v of %d", c, x, m), h, want.did, want.words)
	if h.Config != c {
		t.Fatalf("behind %+v the map is that of %v, not of %v", x, h.Config, c)
	}
}

// mustRow does a line as a row of the table tells it, on words of its own.
func mustRow(t *testing.T, c api.Config, l []api.Word, m int, x api.Mut, r row) {
	t.Helper()
	x.Line = r.line
	mustStep(t, from(t, c, l...), m, x, told(c, l, m, x, r))
}

// mustRefuse holds Step's answer on a line that there isn't against what it must be.
func mustRefuse(t *testing.T, h *hand.Hand, m int, x api.Mut, l []api.Word) {
	t.Helper()
	h.Access = stray()
	if next, lin, done := lisp.Step(h, m, x); next != x || lin || done {
		t.Fatalf("Step(%d, %+v) = %+v, %v, %v", m, x, next, lin, done)
	}
	mustHave(t, fmt.Sprintf("behind the line %d", x.Line), h, api.Access{}, l)
}

// P14.1

// set 0 5 by itself: lines 1, 2, 3, 10, 90: five steps.
func TestExample(t *testing.T) {
	h, e := hand.New(least)
	if e != api.OK {
		t.Fatal(e)
	}
	set := api.Op{Kind: api.OpSet, B: 5}
	x := gate.Begin(set)
	for _, want := range []end{
		{api.Mut{Line: 2, Op: set}, false, api.Access{Kind: api.AAdd, At: 5, X: 1}, []api.Word{1, 0, 0, 0, 0, 1, 0, 0, 3, 0, 0, 0, 0}},
		{api.Mut{Line: 3, Op: set}, false, api.Access{Kind: api.ALoad, At: 1}, []api.Word{1, 0, 0, 0, 0, 1, 0, 0, 3, 0, 0, 0, 0}},
		{api.Mut{Line: 10, Op: set}, false, api.Access{Kind: api.AAdd, At: 5, X: 1, Old: 1}, []api.Word{1, 0, 0, 0, 0, 2, 0, 0, 3, 0, 0, 0, 0}},
		{api.Mut{Line: 90, Op: set, Ret: api.RetOK}, true, api.Access{Kind: api.AStore, At: 6, X: 10}, []api.Word{1, 0, 0, 0, 0, 2, 10, 0, 3, 0, 0, 0, 0}},
		{api.Mut{Line: 0, Op: set, Ret: api.RetOK}, false, api.Access{Kind: api.AAdd, At: 5, X: 2, Old: 2}, []api.Word{1, 0, 0, 0, 0, 4, 10, 0, 3, 0, 0, 0, 0}},
	} {
		mustStep(t, h, 0, x, want)
		x = want.next
	}
	mustRefuse(t, h, 0, x, []api.Word{1, 0, 0, 0, 0, 4, 10, 0, 3, 0, 0, 0, 0})
}

// By hand, of the mutator 1 of some: its registers are the places 12 to 14, globals 7 and 8, the cell i begins at 15 + 3 i.
func TestLinesByHand(t *testing.T) {
	load, store := api.ALoad, api.AStore
	for _, c := range []struct {
		line int
		op   api.Op
		at   int
		was  api.Word
		acc  int
		x    api.Word
		a, b api.Word
		next int
		lin  bool
		ret  int
		p    api.Word
		back int
	}{
		{10, api.Op{Kind: 1, A: 2, B: 5}, 14, 9, store, 10, 7, 9, 90, true, 1, 17, 19},
		{11, api.Op{Kind: 2, A: 2, B: 0}, 12, 3, load, 0, 3, 9, 12, false, 0, 17, 19},
		{11, api.Op{Kind: 2, A: 2, B: 0}, 12, 4, load, 0, 4, 9, 12, false, 0, 17, 19},
		{12, api.Op{Kind: 2, A: 2, B: 0}, 14, 3, store, 7, 7, 9, 80, true, 1, 7, 90},
		{13, api.Op{Kind: 4, A: 2, B: 0}, 12, 3, load, 0, 3, 9, 14, false, 0, 17, 19},
		{13, api.Op{Kind: 5, A: 2, B: 1}, 13, 4, load, 0, 4, 9, 90, true, 4, 17, 19},
		{14, api.Op{Kind: 4, A: 2, B: 0}, 24, 4, load, 0, 7, 4, 15, true, 0, 17, 19},
		{14, api.Op{Kind: 5, A: 2, B: 0}, 25, 5, load, 0, 7, 5, 15, true, 0, 17, 19},
		{15, api.Op{Kind: 4, A: 2, B: 0}, 14, 4, store, 9, 7, 9, 80, false, 1, 9, 90},
		{16, api.Op{Kind: 6, A: 2, B: 0}, 14, 1, load, 0, 1, 9, 17, false, 0, 17, 19},
		{16, api.Op{Kind: 7, A: 2, B: 0}, 14, 0, load, 0, 0, 9, 90, true, 4, 17, 19},
		{17, api.Op{Kind: 6, A: 2, B: 0}, 12, 4, load, 0, 7, 4, 18, false, 0, 17, 19},
		{18, api.Op{Kind: 6, A: 2, B: 0}, 24, 4, store, 9, 7, 9, 80, true, 1, 9, 90},
		{18, api.Op{Kind: 7, A: 2, B: 0}, 25, 4, store, 9, 7, 9, 80, true, 1, 9, 90},
		{19, api.Op{Kind: 8, A: 2, B: 1}, 8, 5, load, 0, 7, 5, 15, true, 0, 17, 19},
		{20, api.Op{Kind: 9, A: 1, B: 0}, 12, 5, load, 0, 7, 5, 21, false, 0, 17, 19},
		{21, api.Op{Kind: 9, A: 1, B: 0}, 8, 5, store, 9, 7, 9, 80, true, 1, 9, 90},
		{22, api.Op{Kind: 10, A: 2, B: 0}, 14, 5, load, 0, 5, 9, 23, false, 0, 17, 19},
		{23, api.Op{Kind: 10, A: 2, B: 0}, 12, 7, load, 0, 7, 7, 90, true, 2, 17, 19},
		{23, api.Op{Kind: 10, A: 2, B: 0}, 12, 6, load, 0, 7, 6, 90, true, 3, 17, 19},
		{24, api.Op{Kind: 11, A: 2, B: 0}, 14, 7, load, 0, 7, 9, 90, true, 3, 17, 19},
		{24, api.Op{Kind: 11, A: 2, B: 0}, 14, 6, load, 0, 6, 9, 90, true, 2, 17, 19},
		{30, api.Op{Kind: 3, A: 2, B: 0, C: 1}, 12, 3, load, 0, 3, 9, 31, false, 0, 17, 19},
		{31, api.Op{Kind: 3, A: 2, B: 0, C: 1}, 13, 3, load, 0, 7, 3, 32, false, 0, 17, 19},
		{38, api.Op{Kind: 3, A: 2, B: 0, C: 1}, 21, 4, store, 7, 7, 9, 80, false, 0, 7, 39},
		{39, api.Op{Kind: 3, A: 2, B: 0, C: 1}, 22, 4, store, 9, 7, 9, 80, false, 0, 9, 40},
		{40, api.Op{Kind: 3, A: 2, B: 0, C: 1}, 14, 4, store, 5, 7, 9, 80, false, 1, 5, 90},
	} {
		l := with(mixed(some), c.at, c.was)
		x := api.Mut{Line: c.line, Op: c.op, A: 7, B: 9, H: 5, N: 13, T: 15, P: 17, Back: 19}
		next := api.Mut{Line: c.next, Op: c.op, A: c.a, B: c.b, H: 5, N: 13, T: 15, P: c.p, Back: c.back, Ret: c.ret}
		words := l
		if c.acc == store {
			words = with(l, c.at, c.x)
		}
		mustStep(t, from(t, some, l...), 1, x, end{next, c.lin, api.Access{Kind: c.acc, At: c.at, X: c.x, Old: c.was}, words})
	}
}

// By hand: an atom has nothing to shade, so that it is gone on at once, with no P and no Back.
func TestStoringAtomsByHand(t *testing.T) {
	for _, c := range []struct {
		line, kind, at, next, ret int
		lin                       bool
	}{
		{12, 2, 14, 90, 1, true}, {15, 4, 14, 90, 1, false}, {15, 5, 14, 90, 1, false}, {15, 8, 14, 90, 1, false},
		{18, 6, 24, 90, 1, true}, {18, 7, 25, 90, 1, true}, {38, 3, 21, 39, 0, false}, {39, 3, 22, 40, 0, false}, {40, 3, 14, 90, 1, false},
	} {
		for _, v := range []api.Word{0, 4, 8193, last} {
			x := api.Mut{Line: c.line, Op: api.Op{Kind: c.kind, A: 2, B: 0, C: 1}, A: v, B: v, H: 5, N: 13, T: 15, P: 17, Back: 19}
			switch c.line {
			case 18:
				x.A = 7
			case 40:
				x.H = v
			}
			l := mixed(some)
			next := x
			next.Line, next.Ret, next.P, next.Back = c.next, c.ret, 0, 0
			did := api.Access{Kind: api.AStore, At: c.at, X: v, Old: l[c.at]}
			mustStep(t, from(t, some, l...), 1, x, end{next, c.lin, did, with(l, c.at, v)})
		}
	}
}

// Each line, of each kind that comes to it and of each that doesn't, with words of all sorts there and in A, B and H.
func TestLines(t *testing.T) {
	for _, c := range []api.Config{some, {Cells: 2, Muts: 1, Regs: 3, Globs: 3}} {
		m := c.Muts - 1
		for _, r := range table() {
			for _, kind := range allKinds() {
				for k, v := range values(c) {
					for j, own := range values(c) {
						x := busy()[(k+j)%len(busy())]
						x.Op = api.Op{Kind: kind, A: 1, B: 0, C: 1}
						x.A, x.B, x.H = own, own, own
						l := mixed(c)
						if at := placeOf(c, m, x, r.at); at >= 0 {
							l[at] = v
						}
						mustRow(t, c, l, m, x, r)
					}
				}
			}
		}
	}
}

// The same with A, B and H that are not the same: none stands for another one.
func TestLinesTellFieldsApart(t *testing.T) {
	for _, r := range table() {
		for _, kind := range r.kinds {
			for _, x := range []api.Mut{
				{A: 1, B: 3, H: 5}, {A: 3, B: 5, H: 7}, {A: 9, B: 1, H: 3}, {A: 2, B: 3, H: 5}, {A: 3, B: 2, H: 5}, {A: 3, B: 5, H: 2}, {A: 3, B: 11, H: 13}, {A: 11, B: 3, H: 8191},
			} {
				for _, op := range []api.Op{{A: 0, B: 1, C: 2}, {A: 1, B: 0, C: 0}, {A: 0, B: 0, C: 1}, {A: 1, B: 1, C: 1}} {
					for m := range some.Muts {
						x.Op, x.Op.Kind = op, kind
						x.N, x.T, x.P, x.Back = 21, 23, 25, 27
						mustRow(t, some, mixed(some), m, x, r)
						cells := make([]api.Word, sizeOf(some))
						for at := range cells {
							cells[at] = cell(at)
						}
						mustRow(t, some, cells, m, x, r)
					}
				}
			}
		}
	}
}

// The first register, global, cell and mutator, and the last ones of the least and the greatest map.
func TestLinesAtTheEdges(t *testing.T) {
	for _, c := range []api.Config{least, most} {
		for _, r := range table() {
			for _, kind := range r.kinds {
				for _, m := range []int{0, c.Muts - 1} {
					for _, n := range []int{0, c.Regs - 1} {
						for _, w := range []api.Word{1, cell(c.Cells - 1)} {
							x := busy()[1]
							x.Op = api.Op{Kind: kind, A: n, B: n, C: n}
							x.A, x.B, x.H = w, w, w
							l := make([]api.Word, sizeOf(c))
							if at := placeOf(c, m, x, r.at); at >= 0 {
								l[at] = w
							}
							mustRow(t, c, l, m, x, r)
						}
					}
				}
			}
		}
	}
}

// Of a register, a global or a mutator that there isn't no access is done: 0 is loaded, and a store changes nothing.
func TestWhatIsNotThere(t *testing.T) {
	for _, c := range []api.Config{least, some} {
		l := mixed(c)
		for _, r := range table() {
			for _, kind := range allKinds() {
				for k, n := range slices.Concat(absent(c.Regs), absent(c.Globs)) {
					x := busy()[k%len(busy())]
					for _, op := range []api.Op{{A: n}, {B: n}, {C: n}, {A: n, B: n, C: n}} {
						x.Op, x.Op.Kind = op, kind
						mustRow(t, c, l, 0, x, r)
					}
				}
				for k, m := range absent(c.Muts) {
					x := busy()[k%len(busy())]
					x.Op = api.Op{Kind: kind}
					mustRow(t, c, l, m, x, r)
				}
			}
		}
	}
}

// By hand: what is loaded out of nothing is 0, which is no cell, and is no other word than itself.
func TestWhatIsNotThereByHand(t *testing.T) {
	l := mixed(some)
	for _, c := range []struct{ m, n int }{{1, 3}, {1, -1}, {1, math.MaxInt}, {1, math.MinInt}, {2, 0}, {-1, 0}, {math.MinInt, 0}, {math.MaxInt, 0}} {
		for _, x := range []struct{ is, next api.Mut }{
			{api.Mut{Line: 10}, api.Mut{Line: 90, Ret: 1}},
			{api.Mut{Line: 11, A: 5}, api.Mut{Line: 12}},
			{api.Mut{Line: 12, A: 5}, api.Mut{Line: 80, A: 5, P: 5, Back: 90, Ret: 1}},
			{api.Mut{Line: 13, A: 5}, api.Mut{Line: 90, Ret: 4}},
			{api.Mut{Line: 15, B: 5}, api.Mut{Line: 80, B: 5, P: 5, Back: 90, Ret: 1}},
			{api.Mut{Line: 16, A: 5}, api.Mut{Line: 90, Ret: 4}},
			{api.Mut{Line: 17, B: 5}, api.Mut{Line: 18}},
			{api.Mut{Line: 20, B: 5}, api.Mut{Line: 21}},
			{api.Mut{Line: 22, A: 5}, api.Mut{Line: 23}},
			{api.Mut{Line: 23, A: 5, B: 5}, api.Mut{Line: 90, A: 5, Ret: 3}},
			{api.Mut{Line: 23, B: 5}, api.Mut{Line: 90, Ret: 2}},
			{api.Mut{Line: 24, A: 5}, api.Mut{Line: 90, Ret: 2}},
			{api.Mut{Line: 30, A: 5}, api.Mut{Line: 31}},
			{api.Mut{Line: 31, B: 5}, api.Mut{Line: 32}},
			{api.Mut{Line: 40, H: 5}, api.Mut{Line: 80, H: 5, P: 5, Back: 90, Ret: 1}},
		} {
			x.is.Op = api.Op{Kind: 5, A: c.n, B: c.n, C: c.n}
			x.next.Op = x.is.Op
			lin := slices.Contains([]int{10, 12, 13, 16, 23, 24}, x.is.Line)
			mustStep(t, from(t, some, l...), c.m, x.is, end{x.next, lin, api.Access{}, l})
		}
	}
}

// By hand: of what is no cell of the map no car and no cdr is loaded or stored.
func TestCellsThatAreNotThereByHand(t *testing.T) {
	l := mixed(some)
	for _, w := range []api.Word{0, 2, 11, 8191, 8193, last} {
		for _, kind := range []int{3, 4, 5, 6, 7} {
			x := api.Mut{Line: 14, Op: api.Op{Kind: kind}, A: w, B: 5}
			mustStep(t, from(t, some, l...), 1, x, end{api.Mut{Line: 15, Op: x.Op, A: w}, true, api.Access{}, l})
			x.Line = 18
			mustStep(t, from(t, some, l...), 1, x, end{api.Mut{Line: 80, Op: x.Op, A: w, B: 5, P: 5, Back: 90, Ret: 1}, true, api.Access{}, l})
			x = api.Mut{Line: 38, Op: x.Op, A: 3, B: 5, H: w}
			mustStep(t, from(t, some, l...), 1, x, end{api.Mut{Line: 80, Op: x.Op, A: 3, B: 5, H: w, P: 3, Back: 39}, false, api.Access{}, l})
			x.Line = 39
			mustStep(t, from(t, some, l...), 1, x, end{api.Mut{Line: 80, Op: x.Op, A: 3, B: 5, H: w, P: 5, Back: 40}, false, api.Access{}, l})
		}
	}
}

// By hand: which part of a cell it is hangs on the kind alone: the car of car and rplaca, the cdr of all others.
func TestPartsByHand(t *testing.T) {
	for _, kind := range allKinds() {
		at := 22
		if kind == 4 || kind == 6 {
			at = 21
		}
		l := with(with(mixed(some), 21, 100), 22, 200)
		x := api.Mut{Line: 14, Op: api.Op{Kind: kind}, A: 5, B: 3}
		mustStep(t, from(t, some, l...), 1, x, end{api.Mut{Line: 15, Op: x.Op, A: 5, B: l[at]}, true, api.Access{Kind: api.ALoad, At: at, Old: l[at]}, l})
		x.Line = 18
		next := api.Mut{Line: 80, Op: x.Op, A: 5, B: 3, P: 3, Back: 90, Ret: 1}
		mustStep(t, from(t, some, l...), 1, x, end{next, true, api.Access{Kind: api.AStore, At: at, X: 3, Old: l[at]}, with(l, at, 3)})
	}
}

// The atom of the line 10, the greatest one too; of a number that no atom has it is nil.
func TestSettingByHand(t *testing.T) {
	for _, c := range []struct {
		b int
		x api.Word
	}{
		{0, 0}, {1, 2}, {5, 10}, {4096, 8192}, {1 << 32, 1 << 33}, {math.MaxInt, last - 1}, {-1, 0}, {-5, 0}, {-1 << 32, 0}, {math.MinInt, 0}, {math.MinInt + 1, 0},
	} {
		l := mixed(some)
		for _, b := range busy() {
			x := b
			x.Line, x.Op = 10, api.Op{Kind: 1, A: 1, B: c.b, C: c.b}
			next := x
			next.Line, next.Ret = 90, 1
			mustStep(t, from(t, some, l...), 1, x, end{next, true, api.Access{Kind: api.AStore, At: 13, X: c.x, Old: l[13]}, with(l, 13, c.x)})
		}
	}
}

// below is what the layer of a line of layers 10 to 13 makes of a step itself.
func below(h *hand.Hand, m int, x api.Mut) (next api.Mut, lin, ok bool) {
	switch x.Line {
	case 80, 81:
		next, ok = barrier.Step(h, x)
	case 32, 33, 37, 41:
		next, ok = ticket.Step(h, x)
	case 34, 35, 36:
		return pop.Step(h, x)
	default:
		next, ok = gate.Step(h, m, x)
	}
	return next, false, ok
}

// mustBeBelow holds a step against that of the layer below that has the line, on the same words.
func mustBeBelow(t *testing.T, c api.Config, l []api.Word, m int, x api.Mut) {
	t.Helper()
	other := from(t, c, l...)
	next, lin, ok := below(other, m, x)
	if !ok {
		t.Fatalf("no layer below has the line %d", x.Line)
	}
	mustStep(t, from(t, c, l...), m, x, end{next, lin, other.Access, other.All()})
}

func TestLinesOfLayersBelow(t *testing.T) {
	for _, c := range []api.Config{least, some} {
		for _, line := range lowerLines() {
			for _, w := range values(c) {
				for _, said := range []api.Word{0, 1, w, last} {
					for k, b := range busy() {
						for _, m := range append(absent(c.Muts), 0, c.Muts-1) {
							l := with(with(mixed(c), 0, said), 1, said)
							l[3], l[4] = said, w
							for i := range c.Cells {
								l[partAt(c, cell(i), 1)], l[partAt(c, cell(i), 2)] = said, api.Word(i+k)%3
							}
							b.Line, b.H, b.N, b.T, b.P = line, w, said, w, w
							b.Op.Kind = k + 1
							mustBeBelow(t, c, l, m, b)
						}
					}
				}
			}
		}
		for _, line := range []int{3, 6} {
			for _, kind := range allKinds() {
				mustBeBelow(t, c, mixed(c), 0, api.Mut{Line: line, Op: api.Op{Kind: kind}})
			}
		}
	}
}

// Behind shading the line is Back: it is done, if that is 0.
func TestShadingLeadsBack(t *testing.T) {
	for _, back := range slices.Concat([]int{0, 90, 37, 39, 40, 36, 41, 15, 80, 81, -1}, noLines()) {
		for colour, line := range map[api.Word]int{0: 81, 1: back, 2: back} {
			l := with(mixed(some), 20, colour)
			x := api.Mut{Line: 80, H: 7, P: 3, Back: back, Ret: 1}
			want := end{api.Mut{Line: line, H: 7, Ret: 1}, false, api.Access{Kind: api.ACas, At: 20, X: 0, Y: 1, Old: colour}, l}
			if colour == 0 {
				want.next.Back = back
				want.words = with(l, 20, 1)
			}
			mustStep(t, from(t, some, l...), 1, x, want)
			mustBeBelow(t, some, l, 1, x)
		}
		l := mixed(some)
		for _, p := range []api.Word{0, 2, 3, 11, last} {
			x := api.Mut{Line: 81, H: 7, P: p, Back: back, Ret: 1}
			did := api.Access{Kind: api.AStore, At: 2, X: 1, Old: l[2]}
			mustStep(t, from(t, some, l...), 1, x, end{api.Mut{Line: back, H: 7, Ret: 1}, false, did, with(l, 2, 1)})
			mustBeBelow(t, some, l, 1, x)
		}
		for _, p := range []api.Word{0, 2, 11, 8191, last} {
			x := api.Mut{Line: 80, H: 7, P: p, Back: back}
			mustStep(t, from(t, some, l...), 1, x, end{api.Mut{Line: back, H: 7}, false, api.Access{}, l})
		}
	}
}

// Of the lines below only 35, where no cell is found, and 36 are linearising steps; by hand.
func TestLinearisingBelowByHand(t *testing.T) {
	for _, line := range lowerLines() {
		for _, behind := range []api.Word{0, 3} {
			l := make([]api.Word, sizeOf(some))
			l[16] = behind
			x := api.Mut{Line: line, H: 1, N: 3, P: 1, Back: 90}
			_, lin, done := lisp.Step(from(t, some, l...), 1, x)
			if want := line == 36 || line == 35 && behind == 0; lin != want {
				t.Errorf("the line %d, with %d behind the cell 0: %v", line, behind, lin)
			}
			if done != (line == 90) {
				t.Errorf("the line %d is done: %v", line, done)
			}
		}
	}
}

// On a line that there isn't nothing is done, and no access of an earlier step is left.
func TestNoLines(t *testing.T) {
	for _, c := range []api.Config{least, some} {
		l := mixed(c)
		h := from(t, c, l...)
		for _, line := range noLines() {
			for _, b := range busy() {
				for _, m := range []int{0, c.Muts - 1, c.Muts, -1, math.MinInt, math.MaxInt} {
					b.Line = line
					mustRefuse(t, h, m, b, l)
					h.Load(api.AtGate)
					if next, lin, done := lisp.Step(h, m, b); next != b || lin || done || h.Access != (api.Access{}) {
						t.Fatalf("behind a load: Step(%+v) = %+v, %v, %v, %+v", b, next, lin, done, h.Access)
					}
				}
			}
		}
	}
}

func TestNilHand(t *testing.T) {
	for _, line := range allLines() {
		for _, b := range busy() {
			for _, m := range []int{0, 1, -1, math.MinInt, math.MaxInt} {
				b.Line = line
				if next, lin, done := lisp.Step(nil, m, b); next != b || lin || done {
					t.Fatalf("Step(nil, %d, %+v) = %+v, %v, %v", m, b, next, lin, done)
				}
			}
		}
	}
}

// Hands without places: a zero one, one without an arena, one without a map, and one whose map isn't right.
func hollow() []func() *hand.Hand {
	return []func() *hand.Hand{
		func() *hand.Hand { return &hand.Hand{} },
		func() *hand.Hand { return &hand.Hand{Map: place.Map{Config: some}} },
		func() *hand.Hand { return &hand.Hand{Arena: arena.New(), Map: place.Map{Config: some}} },
		func() *hand.Hand {
			return &hand.Hand{Arena: arena.New(), Map: place.Map{Config: api.Config{Cells: 1, Muts: -1}}}
		},
	}
}

func TestHollowHands(t *testing.T) {
	for _, make := range hollow() {
		for _, b := range busy() {
			for _, r := range table() {
				for _, kind := range r.kinds {
					b.Line, b.Op.Kind = r.line, kind
					mustStep(t, make(), 1, b, told(some, nil, 1, b, r))
				}
			}
			for _, line := range lowerLines() {
				b.Line = line
				next, lin, _ := below(make(), 1, b)
				mustStep(t, make(), 1, b, end{next: next, lin: lin})
			}
			for _, line := range noLines() {
				b.Line = line
				mustRefuse(t, make(), 1, b, nil)
			}
		}
	}
}

// P14.2

// freshBacks are the lines behind shading on which there is a fresh cell.
func freshBacks() []int {
	return []int{37, 38, 39, 40}
}

// mustHold holds what a mutator has of its own against what it must be: no temporary and no fresh cell are told by false.
func mustHold(t *testing.T, x api.Mut, temp, fresh bool) {
	t.Helper()
	var want [2]api.Word
	var held []api.Word
	if temp {
		want[0] = x.B
		held = append(held, x.B)
	}
	if fresh {
		want[1] = x.H
		held = append(held, x.H)
	}
	late := 0
	if temp || fresh {
		late = x.Op.A
	}
	if w, ok := lisp.Temp(x); w != want[0] || ok != temp {
		t.Fatalf("Temp(%+v) = %d, %v", x, w, ok)
	}
	if w, ok := lisp.Fresh(x); w != want[1] || ok != fresh {
		t.Fatalf("Fresh(%+v) = %d, %v", x, w, ok)
	}
	if r, ok := lisp.Late(x); r != late || ok != (temp || fresh) {
		t.Fatalf("Late(%+v) = %d, %v", x, r, ok)
	}
	if l := lisp.Held(x); !slices.Equal(l, held) {
		t.Fatalf("Held(%+v) = %v, not %v", x, l, held)
	}
}

// holders are mutators with an A, a B, an H and an Op.A of all sorts.
func holders() []api.Mut {
	l := busy()
	for _, w := range []api.Word{0, 1, 2, 8191, 8193, last} {
		for _, a := range []int{0, 4, 63, 64, -1, math.MinInt, math.MaxInt} {
			l = append(l, api.Mut{Op: api.Op{Kind: 3, A: a, B: 9, C: 8}, A: 21, B: w, H: w + 2, N: 23, P: 25})
		}
	}
	return l
}

func TestHolding(t *testing.T) {
	for _, line := range allLines() {
		for _, x := range holders() {
			x.Line, x.Back = line, 0
			mustHold(t, x, line == 15, slices.Contains(freshBacks(), line))
			if line == 80 || line == 81 {
				continue
			}
			for _, back := range []int{15, 37, 38, 39, 40} {
				x.Back = back
				mustHold(t, x, line == 15, slices.Contains(freshBacks(), line))
			}
		}
	}
}

func TestHoldingWhileShading(t *testing.T) {
	for _, line := range []int{80, 81} {
		for _, back := range allLines() {
			for _, x := range holders() {
				x.Line, x.Back = line, back
				mustHold(t, x, false, slices.Contains(freshBacks(), back))
			}
		}
	}
}

// By hand: what is loaded and not yet told, and a cell that has its name, are none.
func TestHoldingByHand(t *testing.T) {
	for _, c := range []struct {
		x           api.Mut
		temp, fresh bool
	}{
		{api.Mut{Line: 14, B: 7, H: 9}, false, false}, {api.Mut{Line: 15, B: 7, H: 9}, true, false}, {api.Mut{Line: 16, B: 7, H: 9}, false, false},
		{api.Mut{Line: 36, B: 7, H: 9}, false, false}, {api.Mut{Line: 37, B: 7, H: 9}, false, true}, {api.Mut{Line: 40, B: 7, H: 9}, false, true},
		{api.Mut{Line: 41, B: 7, H: 9}, false, false}, {api.Mut{Line: 90, B: 7, H: 9}, false, false},
		{api.Mut{Line: 80, Back: 36, H: 9}, false, false}, {api.Mut{Line: 80, Back: 37, H: 9}, false, true}, {api.Mut{Line: 81, Back: 40, H: 9}, false, true},
		{api.Mut{Line: 81, Back: 41, H: 9}, false, false}, {api.Mut{Line: 81, Back: 15, B: 7, H: 9}, false, false}, {api.Mut{Line: 80, Back: 90, H: 9}, false, false},
	} {
		mustHold(t, c.x, c.temp, c.fresh)
	}
}

func TestHeld(t *testing.T) {
	temp, other := api.Mut{Line: 15, B: 7, H: 99}, api.Mut{Line: 15, B: 4, H: 99}
	fresh, taken := api.Mut{Line: 40, B: 99, H: 9}, api.Mut{Line: 80, Back: 37, B: 99, H: 3}
	none := api.Mut{Line: 36, B: 99, H: 99}
	for _, c := range []struct {
		l    []api.Mut
		want []api.Word
	}{
		{nil, nil}, {[]api.Mut{}, nil}, {[]api.Mut{none}, nil}, {[]api.Mut{{}, {}, none}, nil},
		{[]api.Mut{temp}, []api.Word{7}}, {[]api.Mut{fresh}, []api.Word{9}},
		{[]api.Mut{temp, fresh, none, taken, other}, []api.Word{7, 9, 3, 4}},
		{[]api.Mut{other, none, taken, none, fresh, temp}, []api.Word{4, 3, 9, 7}},
		{[]api.Mut{temp, temp, {Line: 15}, fresh, fresh}, []api.Word{7, 7, 0, 9, 9}},
	} {
		was := slices.Clone(c.l)
		got := lisp.Held(c.l...)
		if !slices.Equal(got, c.want) || !slices.Equal(c.l, was) {
			t.Errorf("Held(%+v) = %v, not %v", was, got, c.want)
		}
	}
	// What is answered is new: it may be written over.
	l := []api.Mut{temp, fresh}
	lisp.Held(l...)[0] = 1
	if got := lisp.Held(l...); !slices.Equal(got, []api.Word{7, 9}) {
		t.Errorf("behind an answer that was written over: %v", got)
	}
}

// Of many mutators, as many as one likes.
func TestHeldOfMany(t *testing.T) {
	var l []api.Mut
	var want []api.Word
	for i := range 1000 {
		line := []int{15, 37, 90, 40, 0}[i%5]
		l = append(l, api.Mut{Line: line, B: api.Word(i), H: api.Word(2 * i)})
		switch line {
		case 15:
			want = append(want, api.Word(i))
		case 37, 40:
			want = append(want, api.Word(2*i))
		}
	}
	if got := lisp.Held(l...); !slices.Equal(got, want) {
		t.Errorf("Held of 1000 = %v", got)
	}
}

// P14.3

// run does an operation by itself to its end: the lines that were gone through, and how far it is behind it.
func run(t *testing.T, h *hand.Hand, m int, o api.Op) (lines []int, x api.Mut) {
	t.Helper()
	x = gate.Begin(o)
	lins := 0
	for {
		lines = append(lines, x.Line)
		if len(lines) > 40 {
			t.Fatalf("%+v of %d goes on and on: %v", o, m, lines)
		}
		next, lin, done := lisp.Step(h, m, x)
		if lin {
			lins++
		}
		if done != (next.Line == 0) {
			t.Fatalf("%+v of %d is done on the line %d: %v", o, m, next.Line, done)
		}
		x = next
		if done {
			break
		}
	}
	if lins != 1 {
		t.Fatalf("%+v of %d has had %d linearising steps on %v", o, m, lins, lines)
	}
	return lines, x
}

// shop is a memory and the store that it must be like: the cell i of the store is the memory's cell order[i].
type shop struct {
	h     *hand.Hand
	s     *ideal.Store
	order []int
}

// newShop has nothing in it: the free list goes through all cells in an order.
func newShop(t *testing.T, c api.Config, order ...int) *shop {
	t.Helper()
	l := make([]api.Word, sizeOf(c))
	at := 0
	for _, i := range order {
		l[at] = cell(i)
		at = partAt(c, cell(i), 1)
	}
	l[at] = 0
	s, e := ideal.New(c.Muts, c.Regs, c.Globs)
	if e != api.OK {
		t.Fatal(e)
	}
	return &shop{from(t, c, l...), s, order}
}

// counted are the numbers from 0 on.
func counted(n int) []int {
	l := make([]int, n)
	for i := range l {
		l[i] = i
	}
	return l
}

// word is a store's word as the memory has it.
func (s *shop) word(w api.Word) api.Word {
	if w%2 == 0 {
		return w
	}
	return cell(s.order[w/2])
}

// mustMatch holds registers, globals, cells that were made and the free list against the store.
func (s *shop) mustMatch(t *testing.T, what string) {
	t.Helper()
	c, l := s.h.Config, s.h.All()
	for m := range c.Muts {
		for r := range c.Regs {
			if got, want := l[regAt(c, m, r)], s.word(s.s.Reg(m, r)); got != want {
				t.Fatalf("%s: reg %d %d is %d, not %d", what, m, r, got, want)
			}
		}
	}
	for g := range c.Globs {
		if got, want := l[globAt(c, g)], s.word(s.s.Glob(g)); got != want {
			t.Fatalf("%s: glob %d is %d, not %d", what, g, got, want)
		}
	}
	for i := range s.s.Len() {
		w := cell(s.order[i])
		if got, want := l[partAt(c, w, 0)], s.word(s.s.Car(i)); got != want {
			t.Fatalf("%s: the car of the cell %d is %d, not %d", what, w/2, got, want)
		}
		if got, want := l[partAt(c, w, 1)], s.word(s.s.Cdr(i)); got != want {
			t.Fatalf("%s: the cdr of the cell %d is %d, not %d", what, w/2, got, want)
		}
	}
	if free, ok := pop.List(c, l...); !ok || !slices.Equal(free, s.order[s.s.Len():]) {
		t.Fatalf("%s: the free list is %v, %v, not %v", what, free, ok, s.order[s.s.Len():])
	}
}

// full tells whether the free list has one cell only.
func (s *shop) full() bool {
	return s.s.Len() == len(s.order)-1
}

// mustDo does an operation by itself, and holds what comes of it against the store: the lines, and its result.
func (s *shop) mustDo(t *testing.T, m int, o api.Op) ([]int, int) {
	t.Helper()
	ahead := s.h.All()
	want := s.s.Do(m, o, s.full())
	lines, x := run(t, s.h, m, o)
	what := fmt.Sprintf("behind %+v of %d", o, m)
	if x.Ret != want || x.Op != o || x.P != 0 || x.Back != 0 {
		t.Fatalf("%s: %+v, of which the result is not %d", what, x, want)
	}
	s.mustMatch(t, what)
	behind := s.h.All()
	drawn := api.Word(0)
	if o.Kind == api.OpCons {
		drawn = 1
	}
	if behind[1] != ahead[1] || behind[3] != ahead[3]+drawn || behind[4] != ahead[4]+drawn {
		t.Fatalf("%s: gate, next and serve are %v, not those of %v", what, behind[:5], ahead[:5])
	}
	for i := range s.h.Muts {
		grown := api.Word(0)
		if i == m {
			grown = 4
		}
		if behind[5+i] != ahead[5+i]+grown {
			t.Fatalf("%s: in %d is %d, and was %d", what, i, behind[5+i], ahead[5+i])
		}
	}
	s.mustHaveColours(t, what, ahead, behind, lines)
	return lines, x.Ret
}

// mustHaveColours holds it that cells are only shaded, that dirty is 1 if one was, and that there is a line 81 for each.
func (s *shop) mustHaveColours(t *testing.T, what string, ahead, behind []api.Word, lines []int) {
	t.Helper()
	shaded := 0
	for i := range s.h.Cells {
		at := partAt(s.h.Config, cell(i), 2)
		switch {
		case behind[at] == ahead[at]:
		case ahead[at] == 0 && behind[at] == 1:
			shaded++
		default:
			t.Fatalf("%s: the colour of the cell %d is %d, and was %d", what, i, behind[at], ahead[at])
		}
	}
	soiled := 0
	for _, line := range lines {
		if line == 81 {
			soiled++
		}
	}
	if soiled != shaded || shaded == 0 && behind[2] != ahead[2] || shaded > 0 && behind[2] != 1 {
		t.Fatalf("%s: %d cells were shaded on the lines %v, and dirty is %d", what, shaded, lines, behind[2])
	}
}

// mustRun does an operation, and holds its lines and its result against what they must be.
func (s *shop) mustRun(t *testing.T, m int, o api.Op, ret int, lines ...int) {
	t.Helper()
	got, is := s.mustDo(t, m, o)
	if is != ret || !slices.Equal(got, lines) {
		t.Fatalf("%+v of %d: %d, on the lines %v, not %d on %v", o, m, is, got, ret, lines)
	}
}

// Each kind by itself, with results of each sort: the lines that it goes through, told by hand.
func TestKindsByThemselves(t *testing.T) {
	s := newShop(t, some, counted(5)...)
	s.mustRun(t, 1, api.Op{Kind: api.OpAtom, A: 0}, api.RetTrue, 1, 2, 3, 24, 90)
	s.mustRun(t, 1, api.Op{Kind: api.OpSet, A: 0, B: 5}, api.RetOK, 1, 2, 3, 10, 90)
	s.mustRun(t, 1, api.Op{Kind: api.OpAtom, A: 0}, api.RetTrue, 1, 2, 3, 24, 90)
	s.mustRun(t, 1, api.Op{Kind: api.OpMove, A: 1, B: 0}, api.RetOK, 1, 2, 3, 11, 12, 90)
	s.mustRun(t, 1, api.Op{Kind: api.OpEq, A: 0, B: 1}, api.RetTrue, 1, 2, 3, 22, 23, 90)
	s.mustRun(t, 1, api.Op{Kind: api.OpEq, A: 0, B: 2}, api.RetFalse, 1, 2, 3, 22, 23, 90)
	s.mustRun(t, 1, api.Op{Kind: api.OpCar, A: 2, B: 0}, api.RetAtom, 1, 2, 3, 13, 90)
	s.mustRun(t, 1, api.Op{Kind: api.OpCdr, A: 2, B: 0}, api.RetAtom, 1, 2, 3, 13, 90)
	s.mustRun(t, 1, api.Op{Kind: api.OpRplaca, A: 0, B: 1}, api.RetAtom, 1, 2, 3, 16, 90)
	s.mustRun(t, 1, api.Op{Kind: api.OpRplacd, A: 0, B: 1}, api.RetAtom, 1, 2, 3, 16, 90)
	s.mustRun(t, 1, api.Op{Kind: api.OpGet, A: 2, B: 1}, api.RetOK, 1, 2, 3, 19, 15, 90)
	s.mustRun(t, 1, api.Op{Kind: api.OpPut, A: 1, B: 0}, api.RetOK, 1, 2, 3, 20, 21, 90)
	s.mustRun(t, 1, api.Op{Kind: api.OpGet, A: 2, B: 1}, api.RetOK, 1, 2, 3, 19, 15, 90)
	// The register 2 is the cell 0 of atoms, and the cell 1 is the first one now.
	s.mustRun(t, 1, api.Op{Kind: api.OpCons, A: 2, B: 0, C: 1}, api.RetOK, 1, 2, 3, 30, 31, 32, 33, 34, 35, 36, 80, 81, 37, 38, 39, 40, 80, 81, 90)
	s.mustRun(t, 1, api.Op{Kind: api.OpAtom, A: 2}, api.RetFalse, 1, 2, 3, 24, 90)
	s.mustRun(t, 1, api.Op{Kind: api.OpMove, A: 1, B: 2}, api.RetOK, 1, 2, 3, 11, 12, 80, 90)
	s.mustRun(t, 1, api.Op{Kind: api.OpEq, A: 1, B: 2}, api.RetTrue, 1, 2, 3, 22, 23, 90)
	s.mustRun(t, 1, api.Op{Kind: api.OpEq, A: 0, B: 2}, api.RetFalse, 1, 2, 3, 22, 23, 90)
	s.mustRun(t, 1, api.Op{Kind: api.OpPut, A: 0, B: 2}, api.RetOK, 1, 2, 3, 20, 21, 80, 90)
	s.mustRun(t, 1, api.Op{Kind: api.OpGet, A: 0, B: 0}, api.RetOK, 1, 2, 3, 19, 15, 80, 90)
	s.mustRun(t, 1, api.Op{Kind: api.OpCar, A: 0, B: 2}, api.RetOK, 1, 2, 3, 13, 14, 15, 90)
	// The cell 1 is grey already; the cell 2 isn't.
	s.mustRun(t, 1, api.Op{Kind: api.OpCons, A: 0, B: 2, C: 2}, api.RetOK, 1, 2, 3, 30, 31, 32, 33, 34, 35, 36, 80, 81, 37, 38, 80, 39, 80, 40, 80, 90)
	s.mustRun(t, 1, api.Op{Kind: api.OpCar, A: 1, B: 0}, api.RetOK, 1, 2, 3, 13, 14, 15, 80, 90)
	s.mustRun(t, 1, api.Op{Kind: api.OpCdr, A: 1, B: 0}, api.RetOK, 1, 2, 3, 13, 14, 15, 80, 90)
	s.mustRun(t, 1, api.Op{Kind: api.OpRplaca, A: 2, B: 0}, api.RetOK, 1, 2, 3, 16, 17, 18, 80, 90)
	s.mustRun(t, 1, api.Op{Kind: api.OpRplacd, A: 2, B: 2}, api.RetOK, 1, 2, 3, 16, 17, 18, 80, 90)
	s.mustRun(t, 1, api.Op{Kind: api.OpSet, A: 1, B: math.MaxInt}, api.RetOK, 1, 2, 3, 10, 90)
	s.mustRun(t, 1, api.Op{Kind: api.OpRplacd, A: 2, B: 1}, api.RetOK, 1, 2, 3, 16, 17, 18, 90)
	// The other mutator has its own registers, and finds what is in globals.
	s.mustRun(t, 0, api.Op{Kind: api.OpAtom, A: 2}, api.RetTrue, 1, 2, 3, 24, 90)
	s.mustRun(t, 0, api.Op{Kind: api.OpGet, A: 2, B: 0}, api.RetOK, 1, 2, 3, 19, 15, 80, 90)
	s.mustRun(t, 0, api.Op{Kind: api.OpCons, A: 0, B: 2, C: 0}, api.RetOK, 1, 2, 3, 30, 31, 32, 33, 34, 35, 36, 80, 81, 37, 38, 80, 39, 40, 80, 90)
	s.mustRun(t, 0, api.Op{Kind: api.OpCons, A: 0, B: 0, C: 0}, api.RetOK, 1, 2, 3, 30, 31, 32, 33, 34, 35, 36, 80, 81, 37, 38, 80, 39, 80, 40, 80, 90)
	s.mustRun(t, 0, api.Op{Kind: api.OpCons, A: 0, B: 0, C: 0}, api.RetFull, 1, 2, 3, 30, 31, 32, 33, 34, 35, 41, 90)
	s.mustRun(t, 1, api.Op{Kind: api.OpCons, A: 1, B: 2, C: 0}, api.RetFull, 1, 2, 3, 30, 31, 32, 33, 34, 35, 41, 90)
}

// The longest way: all that is stored is white yet.
func TestLongestWay(t *testing.T) {
	s := newShop(t, some, counted(5)...)
	s.mustDo(t, 0, api.Op{Kind: api.OpCons})
	s.mustDo(t, 0, api.Op{Kind: api.OpCons, A: 1})
	for i := range some.Cells {
		s.h.Arena.Store(partAt(some, cell(i), 2), api.White)
	}
	s.h.Arena.Store(api.AtDirty, 0)
	s.mustRun(t, 0, api.Op{Kind: api.OpCons, A: 2, B: 0, C: 1}, api.RetOK,
		1, 2, 3, 30, 31, 32, 33, 34, 35, 36, 80, 81, 37, 38, 80, 81, 39, 80, 81, 40, 80, 81, 90)
}

// A black cell stays black, and dirty is left alone.
func TestBlackCellsStay(t *testing.T) {
	s := newShop(t, some, counted(5)...)
	for i := range some.Cells {
		s.h.Arena.Store(partAt(some, cell(i), 2), api.Black)
	}
	s.mustRun(t, 0, api.Op{Kind: api.OpCons}, api.RetOK, 1, 2, 3, 30, 31, 32, 33, 34, 35, 36, 80, 37, 38, 39, 40, 80, 90)
	s.mustRun(t, 0, api.Op{Kind: api.OpMove, A: 1}, api.RetOK, 1, 2, 3, 11, 12, 80, 90)
	if got := s.h.Arena.Load(api.AtDirty); got != 0 {
		t.Errorf("dirty is %d", got)
	}
}

// An operation of no kind leaves at once, and has no result.
func TestNoKindByItself(t *testing.T) {
	for _, kind := range []int{0, 12, -1, math.MinInt, math.MaxInt} {
		h := from(t, some, make([]api.Word, sizeOf(some))...)
		x := gate.Begin(api.Op{Kind: kind, A: 1, B: 1})
		for _, line := range []int{2, 3, 90, 0} {
			next, lin, done := lisp.Step(h, 1, x)
			if next.Line != line || lin || done != (line == 0) || next.Ret != 0 {
				t.Fatalf("of the kind %d behind the line %d: %+v, %v, %v", kind, x.Line, next, lin, done)
			}
			x = next
		}
	}
}

// dice are numbers that are the same each time: each is made out of the one ahead.
type dice uint64

func (d *dice) roll(n int) int {
	*d = *d*6364136223846793005 + 1442695040888963407
	return int(uint64(*d)>>33) % n
}

// draw is an operation that is right for a configuration: cons as seldom or as often as one likes.
func (d *dice) draw(c api.Config, conses int) api.Op {
	if d.roll(100) < conses {
		return api.Op{Kind: api.OpCons, A: d.roll(c.Regs), B: d.roll(c.Regs), C: d.roll(c.Regs)}
	}
	o := api.Op{Kind: 1 + d.roll(11), A: d.roll(c.Regs), B: d.roll(c.Regs), C: d.roll(c.Regs)}
	switch o.Kind {
	case api.OpSet:
		o.B = d.roll(4)
	case api.OpGet:
		o.B = d.roll(max(c.Globs, 1))
	case api.OpPut:
		o.A = d.roll(max(c.Globs, 1))
	}
	if c.Globs == 0 && (o.Kind == api.OpGet || o.Kind == api.OpPut) {
		o.Kind = api.OpMove
	}
	return o
}

// shuffled are the numbers from 0 on, in some order.
func (d *dice) shuffled(n int) []int {
	l := counted(n)
	for i := range l {
		j := i + d.roll(n-i)
		l[i], l[j] = l[j], l[i]
	}
	return l
}

// Programs of several mutators, one operation behind the other, till the free list has just one cell, and on from there.
func TestPrograms(t *testing.T) {
	rets := map[int]int{}
	for seed := range 40 {
		d := dice(seed)
		for _, c := range []api.Config{least, some, more, {Cells: 40, Muts: 4, Regs: 2, Globs: 1}, {Cells: 100, Muts: 2, Regs: 6, Globs: 0}} {
			s := newShop(t, c, d.shuffled(c.Cells)...)
			for ends := 0; ends < 30; {
				if s.full() {
					ends++
				}
				_, ret := s.mustDo(t, d.roll(c.Muts), d.draw(c, 10))
				rets[ret]++
			}
			m := d.roll(c.Muts)
			s.mustRun(t, m, api.Op{Kind: api.OpCons, A: c.Regs - 1, B: 0, C: c.Regs - 1}, api.RetFull, 1, 2, 3, 30, 31, 32, 33, 34, 35, 41, 90)
			s.mustRun(t, m, api.Op{Kind: api.OpSet, A: 0, B: 7}, api.RetOK, 1, 2, 3, 10, 90)
		}
	}
	for ret := api.RetOK; ret <= api.RetFull; ret++ {
		if rets[ret] < 100 {
			t.Errorf("the result %d came %d times only", ret, rets[ret])
		}
	}
}

// Wherever in, next and serve begin to count, and whatever dirty is.
func TestCountsGoRound(t *testing.T) {
	for _, begin := range []api.Word{last, last - 1, last - 3, 1 << 63, 40} {
		s := newShop(t, some, 4, 2, 0, 1, 3)
		s.h.Arena.Store(3, begin)
		s.h.Arena.Store(4, begin)
		s.h.Arena.Store(5, begin*4)
		s.h.Arena.Store(6, begin*4)
		for range 6 {
			for m := range some.Muts {
				s.mustDo(t, m, api.Op{Kind: api.OpCons, A: m, B: m, C: 2})
			}
		}
	}
}

// bench is where two operations are done by steps of either: what was done in the order of linearising steps is in the store.
type bench struct {
	shop
	muts []api.Mut
	rets []int // what the store's results were
	done []bool
	lins []int // who has had the linearising step, in order
}

func (b *bench) clone(t *testing.T) *bench {
	t.Helper()
	return &bench{
		shop{from(t, b.h.Config, b.h.All()...), b.s.Copy(), b.order},
		slices.Clone(b.muts), slices.Clone(b.rets), slices.Clone(b.done), slices.Clone(b.lins),
	}
}

// mustPick does a step of a mutator: false, if it is done.
func (b *bench) mustPick(t *testing.T, m int) bool {
	t.Helper()
	if b.done[m] {
		return false
	}
	x := b.muts[m]
	next, lin, done := lisp.Step(b.h, m, x)
	b.muts[m], b.done[m] = next, done
	if lin {
		if slices.Contains(b.lins, m) {
			t.Fatalf("%d has two linearising steps: %+v", m, x)
		}
		b.lins = append(b.lins, m)
		b.rets[m] = b.s.Do(m, x.Op, b.full())
	}
	if done && (!slices.Contains(b.lins, m) || next.Ret != b.rets[m]) {
		t.Fatalf("%d is done with %+v, and the store tells %d", m, next, b.rets[m])
	}
	return true
}

// All orders of the steps of any two operations: they are done at once, at their linearising steps.
func TestAllOrdersOfTwo(t *testing.T) {
	c := api.Config{Cells: 4, Muts: 2, Regs: 2, Globs: 1}
	var ops []api.Op
	for kind := api.OpSet; kind <= api.OpAtom; kind++ {
		ops = append(ops, api.Op{Kind: kind, A: 0, B: 0, C: 0}, api.Op{Kind: kind, A: 0, B: 1, C: 0}, api.Op{Kind: kind, A: 1, B: 0, C: 1})
	}
	ops = slices.DeleteFunc(ops, func(o api.Op) bool {
		return o.Kind == api.OpGet && o.B > 0 || o.Kind == api.OpPut && o.A > 0
	})
	for _, cells := range []int{3, 4} {
		for _, one := range ops {
			for _, other := range ops {
				b := &bench{*newShop(t, c, counted(c.Cells)[:cells]...), make([]api.Mut, 2), make([]int, 2), make([]bool, 2), nil}
				// Both have the same cell, of itself and of an atom.
				b.mustDo(t, 0, api.Op{Kind: api.OpSet, A: 1, B: 9})
				b.mustDo(t, 0, api.Op{Kind: api.OpCons, A: 0, B: 0, C: 1})
				b.mustDo(t, 0, api.Op{Kind: api.OpRplaca, A: 0, B: 0})
				b.mustDo(t, 0, api.Op{Kind: api.OpPut, A: 0, B: 0})
				b.mustDo(t, 1, api.Op{Kind: api.OpGet, A: 0, B: 0})
				b.muts[0], b.muts[1] = gate.Begin(one), gate.Begin(other)
				mustGoAllWays(t, b)
			}
		}
	}
}

// mustGoAllWays goes through all orders of steps: who waits for the lock is not gone on with till a word is changed.
func mustGoAllWays(t *testing.T, b *bench) {
	t.Helper()
	seen, todo, ends := map[string]bool{}, []*bench{b}, 0
	for len(todo) > 0 {
		b := todo[len(todo)-1]
		todo = todo[:len(todo)-1]
		over := true
		for m := range b.muts {
			next := b.clone(t)
			if !next.mustPick(t, m) {
				continue
			}
			over = false
			if key := fmt.Sprint(next.muts, next.done, next.lins, next.h.All()); !seen[key] {
				seen[key] = true
				todo = append(todo, next)
			}
		}
		if over {
			ends++
			b.mustMatch(t, fmt.Sprintf("behind %+v in the order %v", b.muts, b.lins))
		}
	}
	if ends == 0 {
		t.Fatalf("%+v never end", b.muts)
	}
}

// P1, and each answer at all arguments, held against the chapter's words.
func FuzzCalls(f *testing.F) {
	f.Add(10, 1, 0, 5, 0, uint64(1), uint64(3), uint64(5), uint64(7), 90, 0)
	f.Add(14, 4, 0, 1, 0, uint64(5), uint64(3), uint64(5), uint64(7), 0, 1)
	f.Add(18, 6, 2, 1, 0, uint64(7), uint64(8193), uint64(5), uint64(9), 37, 1)
	f.Add(23, 10, 1, 1, 0, uint64(2), uint64(2), uint64(2), uint64(2), 0, 0)
	f.Add(35, 3, 1, 2, 0, uint64(2), uint64(4), uint64(9), uint64(0), 0, 1)
	f.Add(40, 3, -1, 99, math.MinInt, uint64(math.MaxUint64), uint64(1)<<63, uint64(1), uint64(8191), 40, -1)
	f.Add(80, 3, 1, 2, 0, uint64(2), uint64(4), uint64(9), uint64(1), 0, math.MaxInt)
	f.Add(90, 3, 1, 2, 0, uint64(2), uint64(4), uint64(9), uint64(1), 0, math.MinInt)
	f.Fuzz(func(t *testing.T, line, kind, a, b, c int, wa, wb, wh, v uint64, back, m int) {
		x := api.Mut{
			Line: line, Op: api.Op{Kind: kind, A: a, B: b, C: c},
			A: api.Word(wa), B: api.Word(wb), H: api.Word(wh), N: api.Word(v), T: api.Word(wb), P: api.Word(wa), Back: back, Ret: c,
		}
		l := mixed(some)
		for at := range l {
			if at%3 == 0 {
				l[at] = api.Word(v)
			}
		}
		if next, lin, done := lisp.Step(nil, m, x); next != x || lin || done {
			t.Fatalf("Step(nil, %d, %+v) = %+v, %v, %v", m, x, next, lin, done)
		}
		fresh := line >= 37 && line <= 40 || (line == 80 || line == 81) && back >= 37 && back <= 40
		mustHold(t, x, line == 15, fresh)
		if slices.Contains(lowerLines(), line) {
			mustBeBelow(t, some, l, m, x)
			return
		}
		for _, r := range table() {
			if r.line == line {
				mustRow(t, some, l, m, x, r)
				return
			}
		}
		mustRefuse(t, from(t, some, l...), m, x, l)
	})
}
