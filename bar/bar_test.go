package bar_test

import (
	"fmt"
	"math"
	"slices"
	"testing"

	"mudlark/api"
	"mudlark/arena"
	"mudlark/bar"
	"mudlark/gate"
	"mudlark/hand"
	"mudlark/place"
)

const last = api.Word(math.MaxUint64)

var (
	least = api.Config{Cells: 2, Muts: 1, Regs: 1, Globs: 0}
	some  = api.Config{Cells: 3, Muts: 3, Regs: 2, Globs: 2}
	more  = api.Config{Cells: 2, Muts: 7, Regs: 1, Globs: 1}
	most  = api.Config{Cells: 4096, Muts: 63, Regs: 64, Globs: 64}
)

func small() []api.Config {
	return []api.Config{least, some, more, {Cells: 2, Muts: 63, Regs: 1}}
}

func right() []api.Config {
	return append(small(), most, api.Config{Cells: 4096, Muts: 2, Regs: 1})
}

// otherLines are lines of other layers, lines that there aren't, and the ends of int.
func otherLines() []int {
	l := []int{
		17, 18, 19, 20, 21, 22, 23, 24, 25, 34, 80, 81, 90, 256 + 10, 256 + 16, 1 << 16, 1<<32 + 10, 1<<32 + 13, 1<<32 + 16,
		-1, -2, -10, -11, -13, -16, -240, -246, math.MinInt, math.MinInt + 10, math.MinInt + 16, math.MaxInt - 1, math.MaxInt,
	}
	for line := range 10 {
		l = append(l, line)
	}
	return l
}

func lines() []int {
	return []int{10, 11, 12, 13, 14, 15, 16}
}

// ins are words that an in may have: they say each of the four, small and great.
func ins() []api.Word {
	return []api.Word{
		0, 1, 2, 3, 4, 5, 6, 7, 252, 253, 254, 255, 1<<32 - 1, 1 << 32, 1<<32 + 1, 1<<32 + 2, 1<<32 + 3,
		1<<63 - 2, 1<<63 - 1, 1 << 63, 1<<63 + 1, last - 7, last - 6, last - 5, last - 4, last - 3, last - 2, last - 1, last,
	}
}

// says is what an in says, as chapter 12 has it.
func says(w api.Word) string {
	return []string{"idle", "entering", "running", "waiting"}[w%4]
}

// others are words of the gate and of dirty: 0, 1, and any other ones.
func others() []api.Word {
	return []api.Word{0, 1, 2, 3, 4, 255, 256, 1<<32 - 1, 1 << 32, 1<<32 + 1, 1 << 63, last - 1, last}
}

// there are numbers of mutators: all of them, if they are few; else the ends, and some between.
func there(c api.Config) []int {
	if c.Muts > 7 {
		return []int{0, 1, 31, 32, c.Muts - 3, c.Muts - 2, c.Muts - 1}
	}
	var l []int
	for m := range c.Muts {
		l = append(l, m)
	}
	return l
}

// notThere are numbers that no mutator has. With the place of the first in added, some of them come round to small places.
func notThere(c api.Config) []int {
	n := c.Muts
	return []int{
		n, n + 1, n + 2, n + 63, 63, 64, 127, 128, 256, 5000, 1 << 16, 1 << 32, 1<<32 + 1, 1 << 62, math.MaxInt - 5, math.MaxInt - 1, math.MaxInt,
		-1, -2, -3, -4, -5, -6, -63, -64, -n, -n - 1, -256, -1 << 32, 1 - 1<<32, -1 << 62, math.MinInt, math.MinInt + 1, math.MinInt + 5,
	}
}

// busy are collectors with nothing, with something in each field, and with the ends of their types there.
func busy() []api.Col {
	least, most := math.MinInt, math.MaxInt
	return []api.Col{
		{},
		{Line: 18, J: 1, C: 2, M: 3, A: 4, P: 5, Found: true, Tail: 6, Cycles: 7},
		{Line: 3, J: -1, C: -2, M: -3, A: 7, P: 1, Tail: -6, Cycles: -7},
		{Line: least, J: least, C: least, M: least, A: last, P: last, Found: true, Tail: least, Cycles: least},
		{Line: most, J: most, C: most, M: most, A: last - 1, P: 8191, Tail: most, Cycles: most},
	}
}

// on is a collector on a line, with a mutator: all else is kept.
func on(x api.Col, line, m int) api.Col {
	x.Line, x.M = line, m
	return x
}

// holding is a collector that has loaded a word.
func holding(x api.Col, a api.Word) api.Col {
	x.A = a
	return x
}

// from0 is a collector that begins with the cell 0.
func from0(x api.Col) api.Col {
	x.C = 0
	return x
}

// following is a collector that is done with a mutator: it goes on with the next one, or behind the last one.
func following(c api.Config, x api.Col, line, behind int) api.Col {
	if x.M >= c.Muts-1 {
		return on(x, behind, 0)
	}
	return on(x, line, x.M+1)
}

// looked is a collector behind the line 10, of an in.
func looked(c api.Config, x api.Col, in api.Word) api.Col {
	if says(in) == "entering" || says(in) == "waiting" {
		return holding(on(x, 16, x.M), in)
	}
	return holding(following(c, x, 10, 11), 0)
}

// stayed is a collector behind the line 16, of an in.
func stayed(c api.Config, x api.Col, in api.Word) api.Col {
	if in == x.A {
		return x
	}
	if says(in) == "waiting" {
		return holding(x, in)
	}
	return holding(following(c, x, 10, 11), 0)
}

// cleared is a collector behind the line 12, of an in.
func cleared(c api.Config, x api.Col, in api.Word) api.Col {
	if says(in) == "entering" || says(in) == "running" {
		return x
	}
	return following(c, x, 12, 13)
}

// visit is a line that loads an in, and where it leads.
type visit struct {
	line  int
	leads func(c api.Config, x api.Col, in api.Word) api.Col
}

func visits() []visit {
	return []visit{{10, looked}, {12, cleared}, {16, stayed}}
}

func sizeOf(c api.Config) int {
	return 5 + c.Muts + c.Globs + c.Muts*c.Regs + 3*c.Cells
}

// mixed are the words of a memory, no two of which are alike: a word that is changed is seen.
func mixed(c api.Config) []api.Word {
	l := make([]api.Word, sizeOf(c))
	for at := range l {
		l[at] = api.Word(at+1) * 0x9e3779b97f4a7c15
	}
	return l
}

// filled are the words of a memory, all of which are one.
func filled(c api.Config, w api.Word) []api.Word {
	l := make([]api.Word, sizeOf(c))
	for at := range l {
		l[at] = w
	}
	return l
}

// with are words of which one is another one.
func with(l []api.Word, at int, x api.Word) []api.Word {
	l = slices.Clone(l)
	l[at] = x
	return l
}

func from(t *testing.T, c api.Config, l ...api.Word) *hand.Hand {
	t.Helper()
	h, e := hand.From(c, l...)
	if h == nil || e != api.OK {
		t.Fatalf("From(%v) of %d words = %v, %d", c, len(l), h, e)
	}
	return h
}

// mustHave holds the access and all words of a hand against what they must be.
func mustHave(t *testing.T, what string, h *hand.Hand, x api.Access, want []api.Word) {
	t.Helper()
	if h.Access != x {
		t.Fatalf("%s: the access is %+v, not %+v", what, h.Access, x)
	}
	if got := h.All(); !slices.Equal(got, want) {
		t.Fatalf("%s: all words are %v, not %v", what, got, want)
	}
}

// mustDo does a line, and holds its answer, the access and all words against what they must be.
func mustDo(t *testing.T, h *hand.Hand, x, want api.Col, flips bool, did api.Access, words []api.Word) {
	t.Helper()
	c := h.Config
	got, flip, ok := bar.Step(h, x)
	if !ok || flip != flips || got != want {
		t.Fatalf("%v: Step(%+v) = %+v, %v, %v, not %+v, %v", c, x, got, flip, ok, want, flips)
	}
	mustHave(t, fmt.Sprintf("%v: behind %+v", c, x), h, did, words)
	if h.Config != c {
		t.Fatalf("behind %+v the map is that of %v, not of %v", x, h.Config, c)
	}
}

// mustStep does a line that is no flip.
func mustStep(t *testing.T, h *hand.Hand, x, want api.Col, did api.Access, words []api.Word) {
	t.Helper()
	mustDo(t, h, x, want, false, did, words)
}

// mustRefuse holds Step's answer on a line of another layer, or with a nil hand, against what it must be.
func mustRefuse(t *testing.T, h *hand.Hand, x api.Col) {
	t.Helper()
	if got, flip, ok := bar.Step(h, x); ok || flip || got != x {
		t.Fatalf("Step(%+v) = %+v, %v, %v", x, got, flip, ok)
	}
}

// The accesses of this layer's lines.
func loading(at int, old api.Word) api.Access {
	return api.Access{Kind: api.ALoad, At: at, Old: old}
}

func storing(at int, x, old api.Word) api.Access {
	return api.Access{Kind: api.AStore, At: at, X: x, Old: old}
}

// stray is an access that no step does: what a step leaves of it is seen.
func stray() api.Access {
	return api.Access{Kind: 99, At: 98, X: 97, Y: 96, Old: 95}
}

// P17.1

// row is what one step of an example must be: where it leads, its access, and the word that is there then.
type row struct {
	to  api.Col
	did api.Access
	is  api.Word
}

// mustGo goes step by step, and holds each one's answer, its access and all words behind it against what they must be.
// A flip leads to the line 14, and nothing else does.
func mustGo(t *testing.T, h *hand.Hand, x api.Col, rows ...row) api.Col {
	t.Helper()
	l := h.All()
	for _, r := range rows {
		l = with(l, r.did.At, r.is)
		mustDo(t, h, x, r.to, r.to.Line == 14, r.did, l)
		x = r.to
	}
	return x
}

// One mutator, idle, dirty 0: lines 10, 11, 12, 13 (the flip), 14, 20.
func TestExampleOfOneIdle(t *testing.T) {
	h, e := hand.New(least)
	if e != api.OK {
		t.Fatal(e)
	}
	mustHave(t, "at first", h, api.Access{}, []api.Word{1, 0, 0, 0, 0, 0, 0, 0, 3, 0, 0, 0, 0})
	x := mustGo(t, h, api.Col{Line: 10, C: 2, Tail: 1},
		row{api.Col{Line: 11, C: 2, Tail: 1}, loading(5, 0), 0},
		row{api.Col{Line: 12, C: 2, Tail: 1}, storing(1, 1, 0), 1},
		row{api.Col{Line: 13, C: 2, Tail: 1}, loading(5, 0), 0},
		row{api.Col{Line: 14, C: 2, Tail: 1}, loading(2, 0), 0},
		row{api.Col{Line: 20, C: 0, Tail: 1}, storing(1, 0, 1), 0})
	mustRefuse(t, h, x)
	mustHave(t, "at the end", h, storing(1, 0, 1), []api.Word{1, 0, 0, 0, 0, 0, 0, 0, 3, 0, 0, 0, 0})
}

// One that waits: 10, 16, 16, until it has gone in.
func TestExampleOfOneThatWaits(t *testing.T) {
	h := from(t, least, 1, 0, 0, 0, 0, 3, 0, 0, 3, 0, 0, 0, 0)
	waits := row{api.Col{Line: 16, A: 3}, loading(5, 3), 3}
	x := mustGo(t, h, api.Col{Line: 10}, waits, waits)
	m := api.Mut{Line: 5, Op: api.Op{Kind: api.OpSet}}
	for _, c := range []struct{ line, in int }{{6, 3}, {10, 6}} {
		x = mustGo(t, h, x, waits)
		next, ok := gate.Step(h, 0, m)
		if in := h.Arena.Load(5); !ok || next.Line != c.line || in != api.Word(c.in) {
			t.Fatalf("the mutator is %+v, and its in %d", next, in)
		}
		m = next
	}
	mustHave(t, "inside", h, api.Access{Kind: api.AAdd, At: 5, X: 3, Old: 3}, []api.Word{1, 0, 0, 0, 0, 6, 0, 0, 3, 0, 0, 0, 0})
	runs := row{api.Col{Line: 12}, loading(5, 6), 6}
	x = mustGo(t, h, x, row{api.Col{Line: 11}, loading(5, 6), 6}, row{api.Col{Line: 12}, storing(1, 1, 0), 1}, runs, runs)
	m.Line = 90 // the lines between are another layer's
	if next, ok := gate.Step(h, 0, m); !ok || next.Line != 0 {
		t.Fatalf("the mutator is %+v", next)
	}
	mustGo(t, h, x, row{api.Col{Line: 13}, loading(5, 8), 8}, row{api.Col{Line: 14}, loading(2, 0), 0}, row{api.Col{Line: 20}, storing(1, 0, 1), 0})
}

// By hand: three mutators, one of which comes to wait while it is looked at; dirty isn't 0; and all that the collector has beside it stays.
func TestExampleOfThree(t *testing.T) {
	l := with(with(with(with(filled(some, 0), 5, 6), 6, 9), 7, 4), 2, 1)
	h := from(t, some, l...)
	x := func(line, m int, a api.Word) api.Col {
		return api.Col{Line: line, J: 6, C: 3, M: m, A: a, P: 7, Found: true, Tail: 1, Cycles: 8}
	}
	mustGo(t, h, x(10, 0, 12),
		row{x(10, 1, 0), loading(5, 6), 6},
		row{x(16, 1, 9), loading(6, 9), 9},
		row{x(16, 1, 9), loading(6, 9), 9})
	h.Arena.Store(6, 11)
	mustGo(t, h, x(16, 1, 9),
		row{x(16, 1, 11), loading(6, 11), 11},
		row{x(16, 1, 11), loading(6, 11), 11})
	h.Arena.Store(6, 14)
	mustGo(t, h, x(16, 1, 11),
		row{x(10, 2, 0), loading(6, 14), 14},
		row{x(11, 0, 0), loading(7, 4), 4},
		row{x(12, 0, 0), storing(1, 1, 0), 1},
		row{x(12, 0, 0), loading(5, 6), 6})
	h.Arena.Store(5, 8)
	h.Arena.Store(6, 19)
	mustGo(t, h, x(12, 0, 0),
		row{x(12, 1, 0), loading(5, 8), 8},
		row{x(12, 2, 0), loading(6, 19), 19},
		row{x(13, 0, 0), loading(7, 4), 4},
		row{x(15, 0, 0), loading(2, 1), 1},
		row{x(3, 0, 0), storing(1, 0, 1), 0})
	mustRefuse(t, h, x(3, 0, 0))
}

// The lines 10, 12 and 16 of each mutator, whatever its in is: all else is kept.
func TestVisiting(t *testing.T) {
	for _, c := range right() {
		for _, v := range visits() {
			for k, m := range there(c) {
				for n, in := range ins() {
					l := with(mixed(c), 5+m, in)
					h := from(t, c, l...)
					h.Access = stray()
					x := on(busy()[(k+n)%len(busy())], v.line, m)
					mustStep(t, h, x, v.leads(c, x, in), loading(5+m, in), l)
				}
			}
		}
	}
}

// Only the mutator's own in is looked at: those of all others, and all other words, say something else.
func TestVisitingOneAmongOthers(t *testing.T) {
	for _, c := range small() {
		for _, v := range visits() {
			for _, m := range there(c) {
				for _, w := range []api.Word{0, 1, 2, 3} {
					for _, in := range []api.Word{4, 5, 6, 7} {
						l := with(filled(c, w), 5+m, in)
						for _, a := range []api.Word{w, in} {
							x := holding(on(busy()[1], v.line, m), a)
							mustStep(t, from(t, c, l...), x, v.leads(c, x, in), loading(5+m, in), l)
						}
					}
				}
			}
		}
	}
}

// All that a collector may have beside it, with all that A may be ahead.
func TestVisitingKeepsTheRest(t *testing.T) {
	for _, b := range busy() {
		for _, v := range visits() {
			for _, m := range there(some) {
				for _, in := range ins() {
					l := with(mixed(some), 5+m, in)
					h := from(t, some, l...)
					for _, a := range append(ins(), b.A, in, in+1, in-1, in+4, in-4, in^1<<63) {
						x := holding(on(b, v.line, m), a)
						mustStep(t, h, x, v.leads(some, x, in), loading(5+m, in), l)
					}
				}
			}
		}
	}
}

// By hand: what an in says, of the first one of two mutators, and of the last one.
func TestLookingByHand(t *testing.T) {
	c := api.Config{Cells: 2, Muts: 2, Regs: 1}
	for _, in := range []api.Word{0, 4, 1 << 32, last - 3, 2, 6, 254, last - 1} {
		mustLead(t, c, api.Col{Line: 10, M: 0, A: 9, C: 2}, in, api.Col{Line: 10, M: 1, C: 2})
		mustLead(t, c, api.Col{Line: 10, M: 1, A: 9, C: 2}, in, api.Col{Line: 11, M: 0, C: 2})
	}
	for _, in := range []api.Word{1, 5, 1<<32 + 1, last - 2, 3, 7, 255, last} {
		mustLead(t, c, api.Col{Line: 10, M: 0, A: 9, C: 2}, in, api.Col{Line: 16, M: 0, A: in, C: 2})
		mustLead(t, c, api.Col{Line: 10, M: 1, A: 9, C: 2}, in, api.Col{Line: 16, M: 1, A: in, C: 2})
	}
}

// mustLead does a line that loads an in.
func mustLead(t *testing.T, c api.Config, x api.Col, in api.Word, want api.Col) {
	t.Helper()
	l := with(mixed(c), 5+x.M, in)
	mustStep(t, from(t, c, l...), x, want, loading(5+x.M, in), l)
}

// By hand: the in is A, says the same as A, says that it waits, or anything else.
func TestStayingByHand(t *testing.T) {
	c := api.Config{Cells: 2, Muts: 2, Regs: 1}
	for _, r := range []struct {
		a, in, then api.Word
		stays       bool
	}{
		{5, 5, 5, true}, {7, 7, 7, true}, {1, 1, 1, true}, {3, 3, 3, true}, {last, last, last, true}, {last - 2, last - 2, last - 2, true},
		{0, 0, 0, true}, {4, 4, 4, true}, {6, 6, 6, true}, // an in that is A stays so, whatever it says
		{5, 7, 7, true}, {5, 11, 11, true}, {7, 11, 11, true}, {7, 3, 3, true}, {0, 3, 3, true}, {last, 3, 3, true}, {3, last, last, true},
		{5, 9, 0, false}, {5, 1, 0, false}, {1, last - 2, 0, false}, {last - 2, 1, 0, false}, {1, 1<<32 + 1, 0, false}, {7, 9, 0, false},
		{5, 6, 0, false}, {5, 8, 0, false}, {7, 10, 0, false}, {7, 12, 0, false}, {last, 2, 0, false}, {last, 0, 0, false}, {6, 10, 0, false}, {4, 8, 0, false},
	} {
		for m, behind := range []api.Col{{Line: 10, M: 1, J: 4}, {Line: 11, M: 0, J: 4}} {
			want := holding(behind, 0)
			if r.stays {
				want = api.Col{Line: 16, M: m, J: 4, A: r.then}
			}
			mustLead(t, c, api.Col{Line: 16, M: m, J: 4, A: r.a}, r.in, want)
		}
	}
}

// By hand: A is what it was, and plays no part.
func TestClearingByHand(t *testing.T) {
	c := api.Config{Cells: 2, Muts: 2, Regs: 1}
	for _, a := range []api.Word{0, 1, 3, 4, 5, 6, 7, last} {
		for _, in := range []api.Word{0, 4, 1 << 32, last - 3, 3, 7, 255, last} {
			mustLead(t, c, api.Col{Line: 12, M: 0, A: a}, in, api.Col{Line: 12, M: 1, A: a})
			mustLead(t, c, api.Col{Line: 12, M: 1, A: a}, in, api.Col{Line: 13, M: 0, A: a})
		}
		for _, in := range []api.Word{1, 5, 1<<32 + 1, last - 2, 2, 6, 254, last - 1} {
			mustLead(t, c, api.Col{Line: 12, M: 0, A: a}, in, api.Col{Line: 12, M: 0, A: a})
			mustLead(t, c, api.Col{Line: 12, M: 1, A: a}, in, api.Col{Line: 12, M: 1, A: a})
		}
	}
}

// Of a mutator that there isn't no access is done, the one that was done ahead is gone, and what is loaded is 0.
func TestNoMutators(t *testing.T) {
	for _, c := range right() {
		for _, l := range [][]api.Word{mixed(c), filled(c, 0), filled(c, 1), filled(c, 2), filled(c, 3)} {
			h := from(t, c, l...)
			for k, m := range notThere(c) {
				for _, v := range visits() {
					for _, a := range []api.Word{0, 1, 2, 3, last} {
						x := holding(on(busy()[k%len(busy())], v.line, m), a)
						h.Access = stray()
						mustStep(t, h, x, v.leads(c, x, 0), api.Access{}, l)
					}
				}
			}
		}
	}
}

// By hand: behind numbers below 0 the next one is gone on with, behind all others the first one: the greatest int too, of which no int is 1 more.
func TestNoMutatorsByHand(t *testing.T) {
	l := filled(some, 1)
	h := from(t, some, l...)
	for _, r := range []struct {
		m, next int
		again   bool
	}{
		{math.MinInt, math.MinInt + 1, true}, {-3, -2, true}, {-2, -1, true}, {-1, 0, true},
		{3, 0, false}, {4, 0, false}, {63, 0, false}, {1 << 32, 0, false}, {math.MaxInt - 1, 0, false}, {math.MaxInt, 0, false},
	} {
		look, clear := 11, 13
		if r.again {
			look, clear = 10, 12
		}
		h.Load(api.AtGate)
		mustStep(t, h, api.Col{Line: 10, M: r.m, A: 6, C: 4}, api.Col{Line: look, M: r.next, C: 4}, api.Access{}, l)
		mustStep(t, h, api.Col{Line: 16, M: r.m, A: 6, C: 4}, api.Col{Line: look, M: r.next, C: 4}, api.Access{}, l)
		mustStep(t, h, api.Col{Line: 12, M: r.m, A: 6, C: 4}, api.Col{Line: clear, M: r.next, A: 6, C: 4}, api.Access{}, l)
		mustStep(t, h, api.Col{Line: 16, M: r.m, C: 4}, api.Col{Line: 16, M: r.m, C: 4}, api.Access{}, l)
	}
}

// The lines 11, 14 and 15, whatever the gate says: no other word plays a part, and none is changed.
func TestShuttingAndOpening(t *testing.T) {
	for _, c := range right() {
		for n, l := range [][]api.Word{mixed(c), filled(c, 0), filled(c, 1), filled(c, 3), filled(c, last), place.First(c)} {
			for k, was := range others() {
				l := with(l, 1, was)
				b := busy()[(n+k)%len(busy())]
				for _, r := range []struct {
					line, m int
					want    api.Col
					is      api.Word
				}{
					{11, b.M, on(b, 12, b.M), 1}, {11, 0, on(b, 12, 0), 1},
					{14, b.M, from0(on(b, 20, b.M)), 0}, {14, 0, from0(on(b, 20, 0)), 0},
					{15, b.M, on(b, 3, b.M), 0}, {15, 0, on(b, 3, 0), 0},
				} {
					h := from(t, c, l...)
					h.Access = stray()
					mustStep(t, h, on(b, r.line, r.m), r.want, storing(1, r.is, was), with(l, 1, r.is))
				}
			}
		}
	}
}

func TestShuttingAndOpeningByHand(t *testing.T) {
	b := api.Col{J: 1, C: 2, M: 3, A: 4, P: 5, Found: true, Tail: 6, Cycles: 7}
	for _, was := range others() {
		h := from(t, least, 1, was, 9, 0, 0, 5, 0, 0, 3, 0, 0, 0, 0)
		shut := api.Col{Line: 12, J: 1, C: 2, M: 3, A: 4, P: 5, Found: true, Tail: 6, Cycles: 7}
		mustStep(t, h, on(b, 11, 3), shut, storing(1, 1, was), []api.Word{1, 1, 9, 0, 0, 5, 0, 0, 3, 0, 0, 0, 0})
		h.Arena.Store(1, was)
		over := api.Col{Line: 20, J: 1, C: 0, M: 3, A: 4, P: 5, Found: true, Tail: 6, Cycles: 7}
		mustStep(t, h, on(b, 14, 3), over, storing(1, 0, was), []api.Word{1, 0, 9, 0, 0, 5, 0, 0, 3, 0, 0, 0, 0})
		h.Arena.Store(1, was)
		again := api.Col{Line: 3, J: 1, C: 2, M: 3, A: 4, P: 5, Found: true, Tail: 6, Cycles: 7}
		mustStep(t, h, on(b, 15, 3), again, storing(1, 0, was), []api.Word{1, 0, 9, 0, 0, 5, 0, 0, 3, 0, 0, 0, 0})
	}
}

// The line 13, with dirty 0 and not 0: what stands elsewhere plays no part, and the flip is told just then.
func TestFlip(t *testing.T) {
	for _, c := range right() {
		for n, l := range [][]api.Word{mixed(c), filled(c, 0), filled(c, 1), filled(c, last), place.First(c)} {
			for k, dirty := range others() {
				l := with(l, 2, dirty)
				b := busy()[(n+k)%len(busy())]
				for _, m := range []int{b.M, 0, c.Muts} {
					h := from(t, c, l...)
					h.Access = stray()
					if dirty == 0 {
						mustDo(t, h, on(b, 13, m), on(b, 14, m), true, loading(2, 0), l)
					} else {
						mustDo(t, h, on(b, 13, m), on(b, 15, m), false, loading(2, dirty), l)
					}
				}
			}
		}
	}
}

func TestFlipByHand(t *testing.T) {
	x := func(line int) api.Col {
		return api.Col{Line: line, J: 1, C: 2, M: 3, A: 4, P: 5, Found: true, Tail: 6, Cycles: 7}
	}
	clean := []api.Word{1, 1, 0, 1, 1, 1, 1, 1, 1, 1, 1, 1, 1}
	mustDo(t, from(t, least, clean...), x(13), x(14), true, loading(2, 0), clean)
	for _, dirty := range []api.Word{1, 2, 1 << 32, 1 << 63, last} {
		l := []api.Word{0, 0, dirty, 0, 0, 0, 0, 0, 0, 0, 0, 0, 0}
		mustDo(t, from(t, least, l...), x(13), x(15), false, loading(2, dirty), l)
	}
}

// Each line's end with each collector: what a line doesn't name is kept.
func TestOtherLinesOfThisLayerKeepTheRest(t *testing.T) {
	for _, b := range busy() {
		for _, m := range append(there(some), notThere(some)...) {
			for _, a := range ins() {
				b := holding(on(b, 0, m), a)
				h := from(t, some, filled(some, 0)...)
				mustStep(t, h, on(b, 11, m), on(b, 12, m), storing(1, 1, 0), with(filled(some, 0), 1, 1))
				mustDo(t, h, on(b, 13, m), on(b, 14, m), true, loading(2, 0), with(filled(some, 0), 1, 1))
				mustStep(t, h, on(b, 14, m), from0(on(b, 20, m)), storing(1, 0, 1), filled(some, 0))
				mustStep(t, h, on(b, 15, m), on(b, 3, m), storing(1, 0, 0), filled(some, 0))
			}
		}
	}
}

// On other lines nothing is done, and the access of an earlier step stays as well.
func TestOtherLines(t *testing.T) {
	for _, l := range [][]api.Word{mixed(some), filled(some, 0), filled(some, 1), place.First(some)} {
		h := from(t, some, l...)
		for _, did := range []api.Access{{}, loading(1, 9), stray()} {
			h.Access = did
			for _, b := range busy() {
				for _, line := range otherLines() {
					for _, m := range []int{b.M, 0, 1, 3, -1} {
						mustRefuse(t, h, on(b, line, m))
						mustHave(t, fmt.Sprintf("on the line %d", line), h, did, l)
					}
				}
			}
		}
	}
}

func TestNilHand(t *testing.T) {
	for _, b := range busy() {
		for _, line := range append(otherLines(), lines()...) {
			for _, m := range append(notThere(some), 0, 1, 2) {
				mustRefuse(t, nil, on(b, line, m))
			}
		}
	}
}

// A hand that has no places can do no access: what is loaded is 0.
func TestHandsWithoutPlaces(t *testing.T) {
	low := api.Config{Cells: math.MinInt, Muts: math.MinInt, Regs: math.MinInt, Globs: math.MinInt}
	for name, h := range map[string]*hand.Hand{
		"a zero hand":        {},
		"no arena":           {Map: place.Map{Config: some}},
		"no words":           {Arena: arena.New(), Map: place.Map{Config: some}},
		"one word":           {Arena: arena.New(7), Map: place.Map{Config: some}},
		"no mutators":        {Arena: arena.New(1), Map: place.Map{Config: api.Config{Cells: 2, Regs: 1}}},
		"the least numbers":  {Arena: arena.New(1), Map: place.Map{Config: low}},
		"too many mutators":  {Arena: arena.New(1), Map: place.Map{Config: api.Config{Cells: 2, Muts: math.MaxInt, Regs: 1}}},
		"another wrong part": {Arena: arena.New(1), Map: place.Map{Config: api.Config{Cells: 2, Muts: 3}}},
	} {
		for _, b := range busy() {
			for _, m := range append(notThere(some), 0, 1, 2) {
				mustDoWithout(t, name, h, on(b, 11, m), on(b, 12, m), false)
				mustDoWithout(t, name, h, on(b, 13, m), on(b, 14, m), true)
				mustDoWithout(t, name, h, on(b, 14, m), from0(on(b, 20, m)), false)
				mustDoWithout(t, name, h, on(b, 15, m), on(b, 3, m), false)
				look, clear := on(b, 11, 0), on(b, 13, 0)
				if m < h.Muts && m+1 < h.Muts {
					look, clear = on(b, 10, m+1), on(b, 12, m+1)
				}
				mustDoWithout(t, name, h, on(b, 10, m), holding(look, 0), false)
				mustDoWithout(t, name, h, on(b, 12, m), clear, false)
				mustDoWithout(t, name, h, holding(on(b, 16, m), 5), holding(look, 0), false)
				mustDoWithout(t, name, h, holding(on(b, 16, m), 0), holding(on(b, 16, m), 0), false)
			}
			for _, line := range otherLines() {
				mustRefuse(t, h, on(b, line, 0))
			}
		}
	}
}

// mustDoWithout does a line with a hand that has no place: there is no access.
func mustDoWithout(t *testing.T, name string, h *hand.Hand, x, want api.Col, flips bool) {
	t.Helper()
	h.Access = stray()
	if got, flip, ok := bar.Step(h, x); !ok || flip != flips || got != want || h.Access != (api.Access{}) {
		t.Fatalf("%s: Step(%+v) = %+v, %v, %v, not %+v, and the access %+v", name, x, got, flip, ok, want, h.Access)
	}
}

// mustShut holds Shut's answer against what it must be, whatever else the collector has.
func mustShut(t *testing.T, line int, want bool) {
	t.Helper()
	for _, b := range busy() {
		for _, m := range []int{b.M, 0, 1} {
			if x := on(b, line, m); bar.Shut(x) != want {
				t.Fatalf("Shut(%+v) = %v", x, !want)
			}
		}
	}
}

func TestShutByHand(t *testing.T) {
	for line, want := range map[int]bool{9: false, 10: false, 11: false, 12: true, 13: true, 14: true, 15: true, 16: false, 17: false, 20: false, 3: false, 0: false} {
		mustShut(t, line, want)
	}
}

func TestShut(t *testing.T) {
	for line := -300; line <= 600; line++ {
		mustShut(t, line, line >= 12 && line <= 15)
	}
	for _, line := range []int{math.MinInt, math.MinInt + 12, math.MinInt + 15, -1 << 32, 12 - 1<<32, 1 << 32, 1<<32 + 12, 1<<32 + 15, math.MaxInt - 3, math.MaxInt} {
		mustShut(t, line, false)
	}
}

// P17.2

// yard is where mutators go in and out, and the collector shuts the gate and opens it.
type yard struct {
	h     *hand.Hand
	muts  []api.Mut
	left  []int // operations that each is still to begin
	stays []int // how many steps of its own each one's operations have behind their first line
	col   api.Col
	turns int    // how often the collector is still to begin this layer's lines
	due   []bool // who waited, or had found the gate closed, when it was opened, and wasn't inside since
	been  []int  // how often each one got inside
	shuts int    // how often the gate was closed
	flips int
}

// newYard has n mutators that all are idle, with ins from start on, an open gate, and a collector that is about to begin.
func newYard(t *testing.T, n, times, turns int, start api.Word) *yard {
	t.Helper()
	c := api.Config{Cells: 2, Muts: n, Regs: 1}
	l := with(with(mixed(c), api.AtGate, api.GateOpen), api.AtDirty, 0)
	y := &yard{muts: make([]api.Mut, n), left: make([]int, n), stays: make([]int, n), turns: turns, due: make([]bool, n), been: make([]int, n)}
	for m := range n {
		l[5+m] = start
		y.left[m] = times
	}
	y.h = from(t, c, l...)
	return y
}

func (y *yard) clone(t *testing.T) *yard {
	t.Helper()
	return &yard{
		from(t, y.h.Config, y.h.All()...), slices.Clone(y.muts), slices.Clone(y.left), slices.Clone(y.stays),
		y.col, y.turns, slices.Clone(y.due), slices.Clone(y.been), y.shuts, y.flips,
	}
}

// key is all that what happens next hangs on, and how many flips there were.
func (y *yard) key() string {
	return fmt.Sprint(y.muts, y.left, y.col, y.turns, y.due, y.flips, y.h.All())
}

// pick lets a mutator, or behind them the collector, do a step; false: it has no more to do.
func (y *yard) pick(t *testing.T, p int) bool {
	t.Helper()
	did := false
	if p == len(y.muts) {
		did = y.collect(t)
	} else {
		did = y.mutate(t, p)
	}
	if did {
		y.mustFit(t)
	}
	return did
}

// mutate does a mutator's step. Of its operation's own lines, which are another layer's, some make dirty 1.
func (y *yard) mutate(t *testing.T, m int) bool {
	t.Helper()
	x := y.muts[m]
	switch {
	case x.Line == 0 && y.left[m] == 0:
		return false
	case x.Line == 0:
		x = gate.Begin(api.Op{Kind: api.OpSet, A: y.left[m], B: y.stays[m]})
		y.left[m]--
	case x.Line == 10 && x.Op.B > 0:
		x.Op.B--
	case x.Line == 10:
		if x.Op.A%3 == 1 {
			y.h.Arena.Store(api.AtDirty, 1)
		}
		x.Line = 90
	default:
		x = y.pass(t, m)
	}
	y.muts[m] = x
	return true
}

// pass does a mutator's line at the gate, and holds who gets inside against where the collector is.
func (y *yard) pass(t *testing.T, m int) api.Mut {
	t.Helper()
	x := y.muts[m]
	next, ok := gate.Step(y.h, m, x)
	switch {
	case !ok:
		t.Fatalf("Step(%d, %+v) isn't done", m, x)
	case bar.Shut(y.col) && gate.Inside(next) && !gate.Inside(x):
		t.Fatalf("%d got inside by a closed gate, at %+v: from %+v to %+v", m, y.col, x, next)
	case gate.Inside(next) && !gate.Inside(x):
		y.due[m] = false
		y.been[m]++
	}
	return next
}

// collect does a step of the collector. What it does elsewhere is other layers': between two of its turns it makes dirty 0, as a pass does.
func (y *yard) collect(t *testing.T) bool {
	t.Helper()
	if y.col.Line < 10 || y.col.Line > 16 {
		if y.turns == 0 {
			return false
		}
		y.turns--
		y.h.Arena.Store(api.AtDirty, 0)
		y.col.Line, y.col.M = 10, 0
		return true
	}
	x, words := y.col, y.h.All()
	next, flip, ok := bar.Step(y.h, x)
	if !ok || flip != (next.Line == 14) || flip != (x.Line == 13 && words[api.AtDirty] == 0) {
		t.Fatalf("Step(%+v) = %+v, %v, %v, and dirty is %d", x, next, flip, ok, words[api.AtDirty])
	}
	switch {
	case x.Line == 11:
		words[api.AtGate] = api.GateClosed
		y.shuts++
		y.mustHaveNoDue(t)
	case x.Line == 14, x.Line == 15:
		words[api.AtGate] = api.GateOpen
		for m, is := range y.muts {
			y.due[m] = is.Line == 4 || is.Line == 5
		}
	case flip:
		y.flips++
	}
	if got := y.h.All(); !slices.Equal(got, words) {
		t.Fatalf("behind %+v all words are %v, not %v", x, got, words)
	}
	y.col = next
	return true
}

// mustHaveNoDue looks, as the gate is closed, at who waited when it was opened: all of them got inside ahead of this.
func (y *yard) mustHaveNoDue(t *testing.T) {
	t.Helper()
	for m, x := range y.muts {
		if y.due[m] {
			t.Fatalf("the gate is closed anew, and %d, which it was opened for, is %+v", m, x)
		}
		if x.Line >= 4 && x.Line <= 6 {
			t.Fatalf("the gate is closed, and %d, which had found it closed, is still %+v", m, x)
		}
	}
}

// mustFit holds the gate, who is inside, and what each in says against where the collector and the mutators are.
func (y *yard) mustFit(t *testing.T) {
	t.Helper()
	if closed := y.h.Arena.Load(api.AtGate) == api.GateClosed; closed != bar.Shut(y.col) {
		t.Fatalf("closed: %v; and the collector is %+v", closed, y.col)
	}
	for m, x := range y.muts {
		if gate.Inside(x) && y.col.Line >= 13 && y.col.Line <= 15 {
			t.Fatalf("at %+v %d is inside: %+v", y.col, m, x)
		}
		want := "running"
		switch x.Line {
		case 0, 1:
			want = "idle"
		case 2, 3, 4:
			want = "entering"
		case 5, 6:
			want = "waiting"
		}
		if in := y.h.Arena.Load(5 + m); says(in) != want {
			t.Fatalf("the in of %d is %d, and it is %+v", m, in, x)
		}
	}
}

func (y *yard) busy() bool {
	for m, x := range y.muts {
		if y.left[m] > 0 || x.Line != 0 {
			return true
		}
	}
	return y.turns > 0 || y.col.Line >= 10 && y.col.Line <= 16
}

// mustBeOver looks at a yard in which nobody has anything to do: each got inside as often as it was to, and the gate was closed as often as it was to.
func (y *yard) mustBeOver(t *testing.T, times, turns int) {
	t.Helper()
	for m, been := range y.been {
		if been != times || y.due[m] {
			t.Fatalf("%d was inside %d times, not %d: %+v", m, been, times, y.muts[m])
		}
	}
	if y.shuts != turns || y.flips > turns || y.h.Arena.Load(api.AtGate) != api.GateOpen {
		t.Fatalf("the gate was closed %d times, not %d, with %d flips", y.shuts, turns, y.flips)
	}
}

func starts() []api.Word {
	return []api.Word{0, last - 7}
}

// All orders of the steps of one mutator, of two and of three, and of a collector.
func TestAllOrders(t *testing.T) {
	for _, c := range []struct{ n, times, turns, states int }{{1, 4, 4, 500}, {2, 2, 3, 10000}, {3, 1, 2, 5000}} {
		for _, start := range starts() {
			first := newYard(t, c.n, c.times, c.turns, start)
			seen, todo, ends := map[string]bool{}, []*yard{first}, map[int]int{}
			for len(todo) > 0 {
				y := todo[len(todo)-1]
				todo = todo[:len(todo)-1]
				if !y.busy() {
					y.mustBeOver(t, c.times, c.turns)
					ends[y.flips]++
				}
				for p := range c.n + 1 {
					next := y.clone(t)
					if !next.pick(t, p) {
						continue
					}
					if key := next.key(); !seen[key] {
						seen[key] = true
						todo = append(todo, next)
					}
				}
			}
			// Some orders make dirty 1 just ahead of where it is looked at, others don't.
			if len(ends) < 2 || len(seen) < c.states {
				t.Fatalf("%+v from %d on: the ends by their flips are %v, of %d states", c, start, ends, len(seen))
			}
		}
	}
}

// orders are rules by which the next one of n processes is picked: each picks all of them over and over.
func orders() map[string]func(k, n int) int {
	drawn := uint64(7)
	return map[string]func(k, n int) int{
		"one after the other":        func(k, n int) int { return k % n },
		"backwards":                  func(k, n int) int { return n - 1 - k%n },
		"each many times":            func(k, n int) int { return k / 25 % n },
		"each thrice":                func(k, n int) int { return k / 3 % n },
		"to and fro":                 func(k, n int) int { return max(k%(2*n)-n, n-1-k%(2*n)) },
		"the first one most":         func(k, n int) int { return k % 2 * (k / 2 % n) },
		"the collector all the time": func(k, n int) int { return max(k%2*(n-1), k/2%n) },
		"the collector now and then": func(k, n int) int { return k%(7*n+3)/(7*n+2)*(n-1) + (1-k%(7*n+3)/(7*n+2))*(k%max(1, n-1)) },
		"mixed up": func(_, n int) int {
			drawn = drawn*6364136223846793005 + 1442695040888963407
			return int(drawn>>33) % n
		},
	}
}

// Whatever the order, all come to an end, and the gate was closed and opened as often as it was to be.
func TestLongOrders(t *testing.T) {
	for _, c := range []struct{ n, times, turns, stay int }{{1, 20, 20, 0}, {2, 20, 30, 1}, {3, 30, 10, 3}, {5, 20, 20, 0}, {13, 10, 10, 2}, {63, 4, 5, 1}} {
		for name, order := range orders() {
			for _, start := range []api.Word{0, last - 7} {
				y := newYard(t, c.n, c.times, c.turns, start)
				for m := range y.stays {
					y.stays[m] = c.stay * m % 5
				}
				for k := 0; k < 1_000_000 && y.busy(); k++ {
					y.pick(t, order(k, c.n+1))
				}
				if y.busy() {
					t.Fatalf("%s: %d mutators aren't over: %+v, %+v", name, c.n, y.col, y.muts)
				}
				y.mustBeOver(t, c.times, c.turns)
			}
		}
	}
}

const endless = 1 << 40

// ways are rules by which processes are picked in a round: each once, in some order.
func ways() map[string]func(round, n int) []int {
	drawn := uint64(11)
	forth := func(n int) []int {
		var l []int
		for p := range n {
			l = append(l, p)
		}
		return l
	}
	back := func(n int) []int {
		l := forth(n)
		slices.Reverse(l)
		return l
	}
	return map[string]func(round, n int) []int{
		"forth": func(_, n int) []int { return forth(n) },
		"back":  func(_, n int) []int { return back(n) },
		"forth and back": func(round, n int) []int {
			return [][]int{forth(n), back(n)}[round%2]
		},
		"from another one on": func(round, n int) []int {
			l := forth(n)
			return append(l[round%n:], l[:round%n]...)
		},
		"mixed up": func(_, n int) []int {
			l := forth(n)
			for i := n - 1; i > 0; i-- {
				drawn = drawn*6364136223846793005 + 1442695040888963407
				k := int(drawn>>33) % (i + 1)
				l[i], l[k] = l[k], l[i]
			}
			return l
		},
	}
}

// In rounds, in which each is picked once, the gate is closed and opened again and again, and each mutator, which begins anew whenever it is done, gets inside again and again.
func TestRounds(t *testing.T) {
	for _, n := range []int{1, 2, 3, 8, 63} {
		for name, way := range ways() {
			for stay := range 4 {
				y := newYard(t, n, endless, endless, last-1000*api.Word(stay)-3)
				for m := range n {
					y.stays[m] = stay * (m + 1) % 6
				}
				// At each mutator the collector stays for a few rounds, and behind the closed gate all of them leave within some more.
				most := 20 + 5*n
				mustKeepOn(t, name, y, way, most, 600+4*most)
			}
		}
	}
}

// mustKeepOn goes round by round: no count stands still for more of them than it may.
func mustKeepOn(t *testing.T, name string, y *yard, way func(round, n int) []int, most, all int) {
	t.Helper()
	n := len(y.muts)
	shuts, shut := y.shuts, 0
	been, in := slices.Clone(y.been), make([]int, n)
	for round := range all {
		for _, p := range way(round, n+1) {
			if !y.pick(t, p) {
				t.Fatalf("%s: %d does no step: %+v, %+v", name, p, y.col, y.muts)
			}
		}
		if y.shuts > shuts {
			shuts, shut = y.shuts, round
		}
		if round-shut > most {
			t.Fatalf("%s: %d mutators: for %d rounds the gate isn't closed anew: %+v, %+v", name, n, round-shut, y.col, y.muts)
		}
		for m := range n {
			if y.been[m] > been[m] {
				been[m], in[m] = y.been[m], round
			}
			if round-in[m] > most {
				t.Fatalf("%s: %d of %d mutators: for %d rounds it isn't inside: %+v, %+v", name, m, n, round-in[m], y.col, y.muts[m])
			}
		}
	}
}

// Who goes in and out over and over holds nobody up: behind any change of an in the collector goes on, but for one that says that it waits.
// Six picks are once in and out, so that a mutator may be at the same line whenever it is looked at, and say the same: but its in is another one.
func TestFastMutatorsHoldNobodyUp(t *testing.T) {
	for _, n := range []int{1, 2, 3, 7} {
		for fast := 2; fast <= 14; fast++ {
			for ahead := range 6 {
				y := newYard(t, n, endless, endless, last-51)
				for k := range ahead * n {
					y.pick(t, k*k%n) // so that they aren't all at one line
				}
				for range 12 {
					y.mustComeToClose(t, fast)
					y.mustOpen(t, fast)
				}
			}
		}
	}
}

// hurry picks each mutator so many times.
func (y *yard) hurry(t *testing.T, times int) {
	t.Helper()
	for m := range y.muts {
		for range times {
			y.pick(t, m)
		}
	}
}

// mustComeToClose picks the collector till it is about to close the gate, and the mutators many times between: at each it does three steps at most.
func (y *yard) mustComeToClose(t *testing.T, fast int) {
	t.Helper()
	for y.col.Line != 10 {
		y.pick(t, len(y.muts))
		y.hurry(t, fast)
	}
	for steps := 0; y.col.Line != 11; steps++ {
		if steps > 3*len(y.muts) {
			t.Fatalf("%d times as fast: behind %d steps it is %+v, and they are %+v", fast, steps, y.col, y.muts)
		}
		y.pick(t, len(y.muts))
		y.hurry(t, fast)
	}
}

// mustOpen picks the collector till the gate is open anew: at each mutator it does few steps, since who leaves can't come back.
func (y *yard) mustOpen(t *testing.T, fast int) {
	t.Helper()
	for steps := 0; y.col.Line >= 11 && y.col.Line <= 15; steps++ {
		if steps > len(y.muts)+6 {
			t.Fatalf("%d times as fast: behind %d steps it is %+v, and they are %+v", fast, steps, y.col, y.muts)
		}
		y.pick(t, len(y.muts))
		y.hurry(t, fast)
	}
}

// Nobody who isn't picked any more is passed by: one that says it enters, waits, or runs holds the collector where it is, for as long as it stays so.
func TestWhoStaysHolds(t *testing.T) {
	for _, c := range []struct {
		picks  int // of the mutator 1, ahead of all
		closed bool
		line   int
	}{{2, false, 16}, {3, false, 16}, {4, false, 12}, {5, false, 12}, {3, true, 16}, {4, true, 16}, {5, true, 16}} {
		y := newYard(t, 3, 1, 1, 8)
		if c.closed {
			y.h.Arena.Store(api.AtGate, api.GateClosed)
		}
		for range c.picks {
			y.mutate(t, 1)
		}
		y.h.Arena.Store(api.AtGate, api.GateOpen)
		for range 500 {
			y.pick(t, 3)
		}
		if y.col.Line != c.line || y.col.M != 1 {
			t.Fatalf("%+v: the collector is %+v, and the mutators are %+v", c, y.col, y.muts)
		}
		for k := 0; k < 100 && y.busy(); k++ {
			y.pick(t, []int{1, 3}[k%2])
			y.pick(t, []int{0, 2}[k%2])
		}
		if y.busy() || y.shuts != 1 {
			t.Fatalf("%+v: they aren't over: %+v, %+v", c, y.col, y.muts)
		}
	}
}

// P1, and each answer at all arguments, held against the chapter's table.
func FuzzCalls(f *testing.F) {
	f.Add(2, 10, 0, uint64(0), uint64(0), uint64(0))
	for line := 9; line <= 17; line++ {
		f.Add(3, line, 1, uint64(5), uint64(5), uint64(0))
		f.Add(63, line, 62, uint64(5), uint64(7), uint64(1))
		f.Add(1, line, 0, uint64(math.MaxUint64), uint64(3), uint64(math.MaxUint64))
		f.Add(9, line, math.MinInt, uint64(1), uint64(2), uint64(0))
		f.Add(4, line, math.MaxInt, uint64(0), uint64(1), uint64(1))
		f.Add(4, line, -1, uint64(0), uint64(math.MaxUint64), uint64(0))
	}
	f.Fuzz(func(t *testing.T, muts, line, m int, a, in, word uint64) {
		c := api.Config{Cells: 2, Muts: 1 + int(uint(muts)%63), Regs: 1}
		x := holding(on(busy()[1], line, m), api.Word(a))
		mustRefuse(t, nil, x)
		if bar.Shut(x) != (line >= 12 && line <= 15) {
			t.Fatalf("Shut(%+v) = %v", x, bar.Shut(x))
		}
		l := with(with(mixed(c), 1, api.Word(word)), 2, api.Word(word))
		did, loaded := api.Access{}, api.Word(0)
		if m >= 0 && m < c.Muts {
			l[5+m], loaded = api.Word(in), api.Word(in)
			did = loading(5+m, loaded)
		}
		h := from(t, c, l...)
		switch line {
		case 10:
			mustStep(t, h, x, looked(c, x, loaded), did, l)
		case 12:
			mustStep(t, h, x, cleared(c, x, loaded), did, l)
		case 16:
			mustStep(t, h, x, stayed(c, x, loaded), did, l)
		case 11:
			mustStep(t, h, x, on(x, 12, m), storing(1, 1, api.Word(word)), with(l, 1, 1))
		case 13:
			to := 15
			if word == 0 {
				to = 14
			}
			mustDo(t, h, x, on(x, to, m), word == 0, loading(2, api.Word(word)), l)
		case 14:
			mustStep(t, h, x, from0(on(x, 20, m)), storing(1, 0, api.Word(word)), with(l, 1, 0))
		case 15:
			mustStep(t, h, x, on(x, 3, m), storing(1, 0, api.Word(word)), with(l, 1, 0))
		default:
			mustRefuse(t, h, x)
			mustHave(t, "on another line", h, api.Access{}, l)
		}
	})
}
