package gate_test

import (
	"fmt"
	"math"
	"slices"
	"testing"

	"mudlark/api"
	"mudlark/arena"
	"mudlark/gate"
	"mudlark/hand"
	"mudlark/place"
)

const last = api.Word(math.MaxUint64)

var (
	least = api.Config{Cells: 2, Muts: 1, Regs: 1, Globs: 0}
	some  = api.Config{Cells: 3, Muts: 2, Regs: 2, Globs: 2}
	more  = api.Config{Cells: 2, Muts: 5, Regs: 1, Globs: 1}
	most  = api.Config{Cells: 4096, Muts: 63, Regs: 64, Globs: 64}
)

func right() []api.Config {
	return []api.Config{least, some, more, most}
}

// ownLines are the lines of this layer.
func ownLines() []int {
	return []int{1, 2, 3, 4, 5, 6, 90}
}

// otherLines are lines of other layers, lines that there aren't, and the ends of int.
func otherLines() []int {
	return []int{
		0, 7, 8, 9, 10, 11, 13, 16, 19, 20, 22, 24, 30, 32, 33, 37, 41, 80, 81, 89, 91, 92, 100, 190,
		-1, -2, -3, -4, -5, -6, -7, -90, 1<<32 + 1, 1<<32 + 3, 1<<32 + 5, 1<<32 + 90,
		math.MinInt, math.MinInt + 1, math.MinInt + 3, math.MinInt + 90, math.MaxInt - 1, math.MaxInt,
	}
}

// counts are words that an in may have.
func counts() []api.Word {
	return []api.Word{0, 1, 2, 3, 4, 5, 6, 7, 255, 1<<32 - 1, 1 << 32, 1<<63 - 1, 1 << 63, last - 3, last - 2, last - 1, last}
}

// shut are words by which the gate isn't open.
func shut() []api.Word {
	return []api.Word{1, 2, 3, 4, 5, 255, 1 << 32, 1 << 63, last - 1, last}
}

// absent are numbers of mutators that a configuration hasn't.
func absent(c api.Config) []int {
	return []int{c.Muts, c.Muts + 1, c.Muts + 63, 63, 64, 1 << 32, -1, -2, -5, -6, -63, math.MinInt, math.MinInt + 5, math.MaxInt - 5, math.MaxInt}
}

// present are the first mutator that a configuration has, the last one, and one between.
func present(c api.Config) []int {
	return []int{0, c.Muts / 2, c.Muts - 1}
}

// first is the chapter's table of first lines, by kinds.
func first() map[int]int {
	return map[int]int{1: 10, 2: 11, 3: 30, 4: 13, 5: 13, 6: 16, 7: 16, 8: 19, 9: 20, 10: 22, 11: 24}
}

// noKinds are numbers of no operation.
func noKinds() []int {
	return []int{0, 12, 13, 30, 90, -1, -3, -11, 256 + 3, 1<<32 + 3, math.MinInt, math.MinInt + 3, math.MaxInt - 1, math.MaxInt}
}

// busy are mutators with nothing, with something in each field, and with the greatest numbers there.
func busy() []api.Mut {
	least := math.MinInt
	return []api.Mut{
		{},
		{Line: 18, Op: api.Op{Kind: 6, A: 1, B: 2, C: 3}, A: 7, B: 9, H: 11, N: 13, T: 15, P: 17, Back: 19, Ret: api.RetOK},
		{Line: 80, Op: api.Op{Kind: 3, A: 4, B: 5, C: 6}, A: 1, B: 2, H: 3, N: 4, T: 5, P: 1, Back: 37, Ret: api.RetFull},
		{Line: least, Op: api.Op{Kind: least, A: least, B: least, C: least}, A: last, B: last, H: last, N: last, T: last, P: last, Back: least, Ret: least},
	}
}

func at(x api.Mut, line int) api.Mut {
	x.Line = line
	return x
}

// to is a mutator with an operation of another kind: all else is kept.
func to(x api.Mut, kind int) api.Mut {
	x.Op.Kind = kind
	return x
}

// mixed are the words of a memory, no two of which are alike: a word that is changed is seen.
func mixed(c api.Config) []api.Word {
	l := make([]api.Word, 5+c.Muts+c.Globs+c.Muts*c.Regs+3*c.Cells)
	for at := range l {
		l[at] = api.Word(at+1) * 0x9e3779b97f4a7c15
	}
	return l
}

// with are words of which one is another one.
func with(l []api.Word, at int, x api.Word) []api.Word {
	l = slices.Clone(l)
	l[at] = x
	return l
}

func from(t *testing.T, c api.Config, l ...api.Word) *hand.Hand {
	t.Helper()
	h, e := hand.From(c, l...)
	if h == nil || e != api.OK {
		t.Fatalf("From(%v) of %d words = %v, %d", c, len(l), h, e)
	}
	return h
}

// mustHave holds the access and all words of a hand against what they must be.
func mustHave(t *testing.T, what string, h *hand.Hand, x api.Access, want []api.Word) {
	t.Helper()
	if h.Access != x {
		t.Fatalf("%s: the access is %+v, not %+v", what, h.Access, x)
	}
	if got := h.All(); !slices.Equal(got, want) {
		t.Fatalf("%s: all words are %v, not %v", what, got, want)
	}
}

// mustStep does a line, and holds its answer, the access and all words against what they must be.
func mustStep(t *testing.T, h *hand.Hand, m int, x, want api.Mut, did api.Access, words []api.Word) {
	t.Helper()
	c := h.Config
	got, ok := gate.Step(h, m, x)
	if !ok || got != want {
		t.Fatalf("%v: Step(%d, %+v) = %+v, %v, not %+v", c, m, x, got, ok, want)
	}
	mustHave(t, fmt.Sprintf("%v: behind %+v of %d", c, x, m), h, did, words)
	if h.Config != c {
		t.Fatalf("behind %+v the map is that of %v, not of %v", x, h.Config, c)
	}
}

// mustRefuse holds Step's answer on a line of another layer, or with a nil hand, against what it must be.
func mustRefuse(t *testing.T, h *hand.Hand, m int, x api.Mut) {
	t.Helper()
	if got, ok := gate.Step(h, m, x); ok || got != x {
		t.Fatalf("Step(%d, %+v) = %+v, %v", m, x, got, ok)
	}
}

// adding is the access of the lines 1, 3, 4, 6 and 90: the first in is the place 5.
func adding(m int, x, old api.Word) api.Access {
	return api.Access{Kind: api.AAdd, At: 5 + m, X: x, Old: old}
}

// looking is the access of the lines 2 and 5.
func looking(old api.Word) api.Access {
	return api.Access{Kind: api.ALoad, At: 1, Old: old}
}

// sum is the chapter's table of what each line adds to an in.
func sum() map[int]api.Word {
	return map[int]api.Word{1: 1, 3: 1, 4: 2, 6: 3, 90: 2}
}

// next is the line behind one that adds to an in.
func next(x api.Mut) int {
	switch x.Line {
	case 1:
		return 2
	case 4:
		return 5
	case 90:
		return 0
	}
	if line, ok := first()[x.Op.Kind]; ok {
		return line
	}
	return 90
}

// P12.1

// The gate is closed: lines 1, 2, 4, 5, 5; it is opened: 5, 6.
func TestExample(t *testing.T) {
	h := from(t, least, 1, 1, 0, 0, 0, 0, 0, 0, 3, 0, 0, 0, 0)
	x := gate.Begin(api.Op{Kind: api.OpSet, B: 5})
	for k, want := range []struct {
		line     int
		did      api.Access
		gate, in api.Word
	}{
		{2, api.Access{Kind: api.AAdd, At: 5, X: 1, Old: 0}, 1, 1},
		{4, api.Access{Kind: api.ALoad, At: 1, Old: 1}, 1, 1},
		{5, api.Access{Kind: api.AAdd, At: 5, X: 2, Old: 1}, 1, 3},
		{5, api.Access{Kind: api.ALoad, At: 1, Old: 1}, 1, 3},
		{5, api.Access{Kind: api.ALoad, At: 1, Old: 1}, 1, 3},
		{6, api.Access{Kind: api.ALoad, At: 1, Old: 0}, 0, 3},
		{10, api.Access{Kind: api.AAdd, At: 5, X: 3, Old: 3}, 0, 6},
		{0, api.Access{Kind: api.AAdd, At: 5, X: 2, Old: 6}, 0, 8},
	} {
		if k == 5 {
			h.Arena.Store(api.AtGate, api.GateOpen)
		}
		if x.Line == 10 {
			x.Line = 90 // the lines between are another layer's
		}
		is := api.Mut{Line: want.line, Op: api.Op{Kind: api.OpSet, B: 5}}
		mustStep(t, h, 0, x, is, want.did, []api.Word{1, want.gate, 0, 0, 0, want.in, 0, 0, 3, 0, 0, 0, 0})
		x = is
	}
}

func TestOpenGateByHand(t *testing.T) {
	h, e := hand.New(least)
	if e != api.OK {
		t.Fatal(e)
	}
	cons := api.Op{Kind: api.OpCons}
	mustStep(t, h, 0, api.Mut{Line: 1, Op: cons}, api.Mut{Line: 2, Op: cons}, adding(0, 1, 0), []api.Word{1, 0, 0, 0, 0, 1, 0, 0, 3, 0, 0, 0, 0})
	mustStep(t, h, 0, api.Mut{Line: 2, Op: cons}, api.Mut{Line: 3, Op: cons}, looking(0), []api.Word{1, 0, 0, 0, 0, 1, 0, 0, 3, 0, 0, 0, 0})
	mustStep(t, h, 0, api.Mut{Line: 3, Op: cons}, api.Mut{Line: 30, Op: cons}, adding(0, 1, 1), []api.Word{1, 0, 0, 0, 0, 2, 0, 0, 3, 0, 0, 0, 0})
	mustStep(t, h, 0, api.Mut{Line: 90, Op: cons}, api.Mut{Line: 0, Op: cons}, adding(0, 2, 2), []api.Word{1, 0, 0, 0, 0, 4, 0, 0, 3, 0, 0, 0, 0})
}

// By hand: an in of 0, of 5, and of the greatest word, behind which it goes round.
func TestAddingByHand(t *testing.T) {
	eq := api.Op{Kind: api.OpEq, A: 1}
	for _, c := range []struct {
		line, next int
		x, was, is api.Word
	}{
		{1, 2, 1, 0, 1}, {1, 2, 1, 5, 6}, {1, 2, 1, last, 0},
		{3, 22, 1, 0, 1}, {3, 22, 1, 5, 6}, {3, 22, 1, last, 0},
		{4, 5, 2, 0, 2}, {4, 5, 2, 5, 7}, {4, 5, 2, last, 1},
		{6, 22, 3, 0, 3}, {6, 22, 3, 5, 8}, {6, 22, 3, last, 2},
		{90, 0, 2, 0, 2}, {90, 0, 2, 5, 7}, {90, 0, 2, last, 1},
	} {
		l := with(mixed(some), 6, c.was)
		x := api.Mut{Line: c.line, Op: eq, A: 3, Back: 90, Ret: api.RetTrue}
		mustStep(t, from(t, some, l...), 1, x, at(x, c.next), adding(1, c.x, c.was), with(l, 6, c.is))
	}
}

// Whatever the in is, whoever it is of, and with all other fields kept.
func TestAdding(t *testing.T) {
	for _, c := range right() {
		l := mixed(c)
		h := from(t, c, l...)
		for line, x := range sum() {
			for _, m := range present(c) {
				for k, was := range counts() {
					h.Arena.Store(5+m, was)
					b := at(busy()[k%len(busy())], line)
					mustStep(t, h, m, b, at(b, next(b)), adding(m, x, was), with(l, 5+m, was+x))
				}
				h.Arena.Store(5+m, l[5+m])
			}
		}
	}
	for line, x := range sum() {
		for _, b := range busy() {
			l := with(mixed(some), 5, 5)
			b = at(b, line)
			mustStep(t, from(t, some, l...), 0, b, at(b, next(b)), adding(0, x, 5), with(l, 5, 5+x))
		}
	}
}

// What the gate says plays no part on the lines that add.
func TestAddingLooksAtNoGate(t *testing.T) {
	for line, x := range sum() {
		for _, says := range append(shut(), 0) {
			l := with(with(mixed(some), 1, says), 5, 77)
			b := at(busy()[1], line)
			mustStep(t, from(t, some, l...), 0, b, at(b, next(b)), adding(0, x, 77), with(l, 5, 77+x))
		}
	}
}

// Whatever an in says ahead of a line plays no part in where it goes on.
func TestLooking(t *testing.T) {
	for _, c := range right() {
		for _, m := range present(c) {
			for k, in := range counts() {
				b := busy()[k%len(busy())]
				l := with(with(mixed(c), 5+m, in), 1, 0)
				h := from(t, c, l...)
				mustStep(t, h, m, at(b, 2), at(b, 3), looking(0), l)
				mustStep(t, h, m, at(b, 5), at(b, 6), looking(0), l)
				says := shut()[k%len(shut())]
				h.Arena.Store(1, says)
				mustStep(t, h, m, at(b, 2), at(b, 4), looking(says), with(l, 1, says))
				mustStep(t, h, m, at(b, 5), at(b, 5), looking(says), with(l, 1, says))
			}
		}
	}
}

// Only 0 is open: all other words are not.
func TestLookingAtOtherWords(t *testing.T) {
	for _, b := range busy() {
		for _, says := range shut() {
			l := with(mixed(some), 1, says)
			h := from(t, some, l...)
			mustStep(t, h, 1, at(b, 2), at(b, 4), looking(says), l)
			mustStep(t, h, 1, at(b, 5), at(b, 5), looking(says), l)
		}
		l := with(mixed(some), 1, 0)
		h := from(t, some, l...)
		mustStep(t, h, 1, at(b, 2), at(b, 3), looking(0), l)
		mustStep(t, h, 1, at(b, 5), at(b, 6), looking(0), l)
	}
}

// From the lines 3 and 6 an operation is begun, of whatever kind it is.
func TestRunning(t *testing.T) {
	for line, x := range map[int]api.Word{3: 1, 6: 3} {
		for _, b := range busy() {
			l := with(mixed(some), 6, 9)
			for kind, begin := range first() {
				b := at(to(b, kind), line)
				mustStep(t, from(t, some, l...), 1, b, at(b, begin), adding(1, x, 9), with(l, 6, 9+x))
			}
			for _, kind := range noKinds() {
				b := at(to(b, kind), line)
				mustStep(t, from(t, some, l...), 1, b, at(b, 90), adding(1, x, 9), with(l, 6, 9+x))
			}
		}
	}
}

// Where a line goes on hangs on the operation's kind on the lines 3 and 6 alone.
func TestKindsOnOtherOwnLines(t *testing.T) {
	l := with(mixed(some), 1, 1)
	for kind := -2; kind <= 14; kind++ {
		x := to(busy()[1], kind)
		mustStep(t, from(t, some, l...), 0, at(x, 1), at(x, 2), adding(0, 1, l[5]), with(l, 5, l[5]+1))
		mustStep(t, from(t, some, l...), 0, at(x, 2), at(x, 4), looking(1), l)
		mustStep(t, from(t, some, l...), 0, at(x, 4), at(x, 5), adding(0, 2, l[5]), with(l, 5, l[5]+2))
		mustStep(t, from(t, some, l...), 0, at(x, 5), at(x, 5), looking(1), l)
		mustStep(t, from(t, some, l...), 0, at(x, 90), at(x, 0), adding(0, 2, l[5]), with(l, 5, l[5]+2))
	}
}

func TestAllMutators(t *testing.T) {
	for _, c := range []api.Config{more, most} {
		l := mixed(c)
		h := from(t, c, l...)
		for m := range c.Muts {
			for line, x := range sum() {
				b := at(busy()[2], line)
				old := l[5+m]
				l[5+m] += x
				mustStep(t, h, m, b, at(b, next(b)), adding(m, x, old), l)
			}
		}
	}
}

// Of a mutator that there isn't, the in is none: it is not the word that lies there.
func TestAbsentMutators(t *testing.T) {
	for _, c := range right() {
		l := mixed(c)
		h := from(t, c, l...)
		for _, m := range absent(c) {
			for k, line := range []int{1, 3, 4, 6, 90} {
				h.Access = api.Access{Kind: 99, At: 98, X: 97, Y: 96, Old: 95}
				b := at(busy()[k%len(busy())], line)
				mustStep(t, h, m, b, at(b, next(b)), api.Access{}, l)
				b = at(to(busy()[1], api.OpGet), line)
				mustStep(t, h, m, b, at(b, next(b)), api.Access{}, l)
			}
		}
	}
}

// The gate is there, whoever looks: nobody gets by while it is closed.
func TestAbsentMutatorsAtTheGate(t *testing.T) {
	for _, c := range right() {
		for _, m := range absent(c) {
			for _, b := range busy() {
				l := with(mixed(c), 1, 0)
				h := from(t, c, l...)
				mustStep(t, h, m, at(b, 2), at(b, 3), looking(0), l)
				mustStep(t, h, m, at(b, 5), at(b, 6), looking(0), l)
				h.Arena.Store(1, 1)
				mustStep(t, h, m, at(b, 2), at(b, 4), looking(1), with(l, 1, 1))
				mustStep(t, h, m, at(b, 5), at(b, 5), looking(1), with(l, 1, 1))
			}
		}
	}
}

// On other lines nothing is done, and the access of an earlier step stays as well.
func TestOtherLines(t *testing.T) {
	for _, l := range [][]api.Word{mixed(some), make([]api.Word, len(mixed(some)))} {
		h := from(t, some, l...)
		for _, did := range []api.Access{{}, {Kind: api.ALoad, At: 1, Old: 9}, {Kind: 99, At: -1, X: 97, Y: 96, Old: 95}} {
			h.Access = did
			for _, b := range busy() {
				for _, line := range otherLines() {
					for _, m := range []int{0, 1, 2, -1} {
						mustRefuse(t, h, m, at(b, line))
						mustHave(t, fmt.Sprintf("on the line %d", line), h, did, l)
					}
				}
			}
		}
	}
}

func TestNilHand(t *testing.T) {
	for _, b := range busy() {
		for _, line := range append(otherLines(), ownLines()...) {
			for _, m := range append(absent(some), 0, 1) {
				mustRefuse(t, nil, m, at(b, line))
			}
		}
	}
}

// A hand that has no places can do no access: what is loaded is 0.
func TestHandsWithoutPlaces(t *testing.T) {
	for name, h := range map[string]*hand.Hand{
		"a zero hand": {},
		"no arena":    {Map: place.Map{Config: some}},
		"no words":    {Arena: arena.New()},
		"a few words": {Arena: arena.New(7), Map: place.Map{Config: some}},
	} {
		for _, b := range busy() {
			for _, c := range []struct{ x, want api.Mut }{
				{at(b, 1), at(b, 2)},
				{at(b, 2), at(b, 3)},
				{at(b, 3), at(b, next(at(b, 3)))},
				{at(b, 4), at(b, 5)},
				{at(b, 5), at(b, 6)},
				{at(b, 6), at(b, next(at(b, 6)))},
				{at(b, 90), at(b, 0)},
			} {
				h.Access = api.Access{Kind: api.ALoad, At: 1}
				if got, ok := gate.Step(h, 0, c.x); !ok || got != c.want || h.Access != (api.Access{}) {
					t.Errorf("%s: Step(%+v) = %+v, %v, not %+v, and the access %+v", name, c.x, got, ok, c.want, h.Access)
				}
			}
			for _, line := range otherLines() {
				mustRefuse(t, h, 0, at(b, line))
			}
		}
	}
}

// Each step's access takes the place of the one that stood there.
func TestAccessIsThatOfTheStep(t *testing.T) {
	l := with(with(mixed(least), 1, 0), 5, 8)
	h := from(t, least, l...)
	h.Access = api.Access{Kind: 99, At: 98, X: 97, Y: 96, Old: 95}
	mustStep(t, h, 0, api.Mut{Line: 2}, api.Mut{Line: 3}, looking(0), l)
	mustStep(t, h, 0, api.Mut{Line: 90}, api.Mut{}, adding(0, 2, 8), with(l, 5, 10))
	mustStep(t, h, 1, api.Mut{Line: 90}, api.Mut{}, api.Access{}, with(l, 5, 10))
	mustStep(t, h, 0, api.Mut{Line: 5}, api.Mut{Line: 6}, looking(0), with(l, 5, 10))
	mustStep(t, h, 0, api.Mut{Line: 6}, api.Mut{Line: 90}, adding(0, 3, 10), with(l, 5, 13))
}

// P12.2

func TestFirst(t *testing.T) {
	for kind, want := range []int{90, 10, 11, 30, 13, 13, 16, 16, 19, 20, 22, 24, 90} {
		if got := gate.First(kind); got != want {
			t.Errorf("First(%d) = %d, not %d", kind, got, want)
		}
	}
	for _, kind := range noKinds() {
		if got := gate.First(kind); got != 90 {
			t.Errorf("First(%d) = %d, not 90", kind, got)
		}
	}
	for kind := -300; kind <= 300; kind++ {
		want, ok := first()[kind]
		if !ok {
			want = 90
		}
		if got := gate.First(kind); got != want {
			t.Errorf("First(%d) = %d, not %d", kind, got, want)
		}
	}
}

// An operation is begun as it is, right or not.
func TestBegin(t *testing.T) {
	for _, x := range []api.Op{
		{}, {Kind: api.OpSet, A: 0, B: 5}, {Kind: api.OpCons, A: 1, B: 2, C: 3}, {Kind: api.OpAtom, A: 63},
		{Kind: 12, A: -1, B: -2, C: -3}, {Kind: math.MinInt, A: math.MinInt, B: math.MinInt, C: math.MinInt},
		{Kind: math.MaxInt, A: math.MaxInt, B: math.MaxInt, C: math.MaxInt},
	} {
		if got, want := gate.Begin(x), (api.Mut{Line: 1, Op: x}); got != want {
			t.Errorf("Begin(%v) = %+v, not %+v", x, got, want)
		}
	}
}

func TestInsideByHand(t *testing.T) {
	for _, b := range busy() {
		for line, want := range []bool{false, false, false, true, false, false, true, true, true, true, true} {
			if got := gate.Inside(at(b, line)); got != want {
				t.Errorf("Inside(%+v) = %v", at(b, line), got)
			}
		}
	}
}

func TestInside(t *testing.T) {
	for _, b := range busy() {
		for line := -100; line <= 200; line++ {
			if got := gate.Inside(at(b, line)); got != (line == 3 || line > 5) {
				t.Errorf("Inside(%+v) = %v", at(b, line), got)
			}
		}
		for line, want := range map[int]bool{
			math.MinInt: false, math.MinInt + 3: false, math.MinInt + 90: false, -1 << 32: false, 3 - 1<<32: false,
			1 << 32: true, 1<<32 + 1: true, 1<<32 + 5: true, math.MaxInt - 1: true, math.MaxInt: true,
		} {
			if got := gate.Inside(at(b, line)); got != want {
				t.Errorf("Inside(%+v) = %v", at(b, line), got)
			}
		}
	}
}

func TestSays(t *testing.T) {
	for w, want := range []api.Word{
		api.InIdle, api.InEntering, api.InRunning, api.InWaiting, api.InIdle, api.InEntering, api.InRunning, api.InWaiting, api.InIdle, api.InEntering,
	} {
		if got := gate.Says(api.Word(w)); got != want {
			t.Errorf("Says(%d) = %d, not %d", w, got, want)
		}
	}
	for w, want := range map[api.Word]api.Word{
		255: 3, 256: 0, 1<<32 - 1: 3, 1 << 32: 0, 1<<32 + 1: 1, 1<<63 - 1: 3, 1 << 63: 0, 1<<63 + 2: 2,
		last: 3, last - 1: 2, last - 2: 1, last - 3: 0, last - 4: 3, last - 5: 2,
	} {
		if got := gate.Says(w); got != want {
			t.Errorf("Says(%d) = %d, not %d", w, got, want)
		}
	}
}

// P12.3

// street is where mutators go in and out, and one opens and closes the gate.
type street struct {
	h     *hand.Hand
	muts  []api.Mut
	left  []int // operations that each is still to begin
	turns int   // how often the gate is still to be opened or closed
}

// newStreet has n mutators that all are idle, with ins from start on, and an open gate.
func newStreet(t *testing.T, n, times, turns int, start api.Word) *street {
	t.Helper()
	c := api.Config{Cells: 2, Muts: n, Regs: 1}
	l := with(mixed(c), 1, api.GateOpen)
	s := &street{muts: make([]api.Mut, n), left: make([]int, n), turns: turns}
	for m := range n {
		l[5+m] = start
		s.left[m] = times
	}
	s.h = from(t, c, l...)
	return s
}

func (s *street) clone(t *testing.T) *street {
	t.Helper()
	return &street{from(t, s.h.Config, s.h.All()...), slices.Clone(s.muts), slices.Clone(s.left), s.turns}
}

// pick lets a mutator, or behind them the one at the gate, do a step; false: it has no more to do.
func (s *street) pick(t *testing.T, p int) bool {
	t.Helper()
	if p == len(s.muts) {
		return s.turn()
	}
	x := s.muts[p]
	switch x.Line {
	case 0:
		if s.left[p] == 0 {
			return false
		}
		x = gate.Begin(api.Op{Kind: (p + s.left[p]) % 13})
		s.left[p]--
	case 1, 2, 3, 4, 5, 6, 90:
		x = s.step(t, p)
	default:
		x = at(x, 90) // the operation's own lines are another layer's
	}
	s.muts[p] = x
	s.mustFit(t)
	return true
}

func (s *street) turn() bool {
	if s.turns == 0 {
		return false
	}
	s.turns--
	s.h.Arena.Store(api.AtGate, api.GateClosed-s.h.Arena.Load(api.AtGate))
	return true
}

// step does a mutator's line, and holds what was asked at the gate against who is inside then.
func (s *street) step(t *testing.T, m int) api.Mut {
	t.Helper()
	x, words := s.muts[m], s.h.All()
	y, ok := gate.Step(s.h, m, x)
	if !ok {
		t.Fatalf("Step(%d, %+v) isn't done", m, x)
	}
	closed := words[api.AtGate] == api.GateClosed
	switch {
	case closed && gate.Inside(y) && !gate.Inside(x):
		t.Fatalf("%d got inside by a closed gate: from %+v to %+v", m, x, y)
	case !closed && (x.Line == 2 || x.Line == 5) && !gate.Inside(y):
		t.Fatalf("%d is at an open gate, and not inside: from %+v to %+v", m, x, y)
	case y.Line == 5 && gate.Says(s.h.Arena.Load(s.h.In(m))) != api.InWaiting:
		t.Fatalf("%d waits, and hasn't said so: from %+v to %+v", m, x, y)
	case gate.Inside(x) && !gate.Inside(y) && y.Line != 0:
		t.Fatalf("%d is outside, and not idle: from %+v to %+v", m, x, y)
	}
	words[5+m] = s.h.Arena.Load(5 + m)
	if got := s.h.All(); !slices.Equal(got, words) {
		t.Fatalf("%d changed another's word: %v, not %v", m, got, words)
	}
	return y
}

// mustFit holds what each in says against where its mutator is.
func (s *street) mustFit(t *testing.T) {
	t.Helper()
	for m, x := range s.muts {
		want := api.InRunning
		switch x.Line {
		case 0, 1:
			want = api.InIdle
		case 2, 3, 4:
			want = api.InEntering
		case 5, 6:
			want = api.InWaiting
		}
		if in := s.h.Arena.Load(s.h.In(m)); gate.Says(in) != want {
			t.Fatalf("the in of %d is %d, and it is %+v", m, in, x)
		}
	}
}

func (s *street) busy() bool {
	for m, x := range s.muts {
		if s.left[m] > 0 || x.Line != 0 {
			return true
		}
	}
	return s.turns > 0
}

// mustBeQuiet holds it that each in has grown by 4 for each operation, or by 8 for one that had to wait.
func (s *street) mustBeQuiet(t *testing.T, times int, start api.Word) {
	t.Helper()
	for m := range s.muts {
		grown := s.h.Arena.Load(5+m) - start
		if grown%4 != 0 || grown < api.Word(4*times) || grown > api.Word(8*times) {
			t.Fatalf("behind %d operations the in of %d has grown from %d by %d", times, m, start, grown)
		}
	}
	if s.h.Arena.Load(api.AtGate) != api.GateOpen {
		t.Fatal("the gate is closed")
	}
}

func starts() []api.Word {
	return []api.Word{0, 4, 1<<32 - 4, 1<<63 - 4, last - 7, last - 3}
}

// All orders of the steps of two mutators that go in twice, and of three that go in once, while the gate is closed and opened.
func TestAllOrders(t *testing.T) {
	for _, c := range []struct{ n, times, turns, states int }{{1, 3, 6, 100}, {2, 2, 4, 1000}, {3, 1, 2, 1000}} {
		for _, start := range starts() {
			first := newStreet(t, c.n, c.times, c.turns, start)
			seen, todo, ends := map[string]bool{}, []*street{first}, 0
			for len(todo) > 0 {
				s := todo[len(todo)-1]
				todo = todo[:len(todo)-1]
				if !s.busy() {
					s.mustBeQuiet(t, c.times, start)
					ends++
				}
				for p := range c.n + 1 {
					next := s.clone(t)
					if !next.pick(t, p) {
						continue
					}
					if key := fmt.Sprint(next.muts, next.left, next.turns, next.h.All()); !seen[key] {
						seen[key] = true
						todo = append(todo, next)
					}
				}
			}
			if ends == 0 || len(seen) < c.states {
				t.Fatalf("%+v from %d on: %d ends, of %d states", c, start, ends, len(seen))
			}
		}
	}
}

// orders are rules by which the next one of n processes is picked: each picks all of them over and over.
func orders() map[string]func(k, n int) int {
	drawn := uint64(7)
	return map[string]func(k, n int) int{
		"one after the other":   func(k, n int) int { return k % n },
		"backwards":             func(k, n int) int { return n - 1 - k%n },
		"each many times":       func(k, n int) int { return k / 25 % n },
		"to and fro":            func(k, n int) int { return max(k%(2*n)-n, n-1-k%(2*n)) },
		"the first one most":    func(k, n int) int { return k % 2 * (k / 2 % n) },
		"the gate all the time": func(k, n int) int { return max(k%2*(n-1), k/2%n) },
		"mixed up": func(_, n int) int {
			drawn = drawn*6364136223846793005 + 1442695040888963407
			return int(drawn>>33) % n
		},
	}
}

// Who waits gets in at last, since the gate is open at the end.
func TestLongOrders(t *testing.T) {
	for _, c := range []struct{ n, times, turns int }{{1, 5, 10}, {2, 5, 20}, {5, 5, 50}, {13, 3, 100}, {63, 1, 30}} {
		for name, order := range orders() {
			for _, start := range []api.Word{0, last - 7} {
				s := newStreet(t, c.n, c.times, c.turns, start)
				for k := 0; k < 1_000_000 && s.busy(); k++ {
					s.pick(t, order(k, c.n+1))
				}
				if s.busy() {
					t.Fatalf("%s: %d mutators aren't over: %+v", name, c.n, s.muts)
				}
				s.mustBeQuiet(t, c.times, start)
			}
		}
	}
}

// While the gate stays closed all who come wait, however often they look, and who is inside gets out.
func TestClosedForLong(t *testing.T) {
	s := newStreet(t, 3, 2, 2, 4)
	for range 2 {
		s.pick(t, 0) // up to where it looks
	}
	for range 3 {
		s.pick(t, 1) // inside
	}
	s.turn()
	for k := range 3000 {
		s.pick(t, k%3)
	}
	for m, x := range s.muts {
		if x.Line != 5 || s.left[m] != []int{1, 0, 1}[m] {
			t.Fatalf("%d is %+v, and has %d left", m, x, s.left[m])
		}
	}
	s.turn()
	for m := range s.muts {
		s.pick(t, m)
		if x := s.muts[m]; x.Line != 6 || !gate.Inside(x) {
			t.Fatalf("the gate was opened, and %d is %+v", m, x)
		}
	}
	s.turns = 1
	s.turn()
	for m := range s.muts {
		s.pick(t, m)
		if x := s.muts[m]; x.Line != gate.First(x.Op.Kind) || !gate.Inside(x) {
			t.Fatalf("%d was inside, and is %+v", m, x)
		}
	}
}

// P1, and each answer at all arguments, held against the chapter's tables.
func FuzzCalls(f *testing.F) {
	f.Add(1, 0, 3, uint64(0), uint64(0))
	f.Add(2, 1, 3, uint64(5), uint64(1))
	f.Add(3, 1, 8, uint64(math.MaxUint64), uint64(9))
	f.Add(4, 2, 0, uint64(7), uint64(1))
	f.Add(5, 0, 12, uint64(7), uint64(math.MaxUint64))
	f.Add(6, -1, math.MinInt, uint64(3), uint64(0))
	f.Add(90, math.MaxInt, math.MaxInt, uint64(1)<<63, uint64(2))
	f.Add(math.MinInt, 0, 3, uint64(4), uint64(0))
	f.Fuzz(func(t *testing.T, line, m, kind int, in, says uint64) {
		x := at(to(busy()[1], kind), line)
		mustRefuse(t, nil, m, x)
		if gate.Inside(x) != (line == 3 || line > 5) || gate.Says(api.Word(in)) != api.Word(in&3) {
			t.Fatalf("Inside(%+v) = %v, Says(%d) = %d", x, gate.Inside(x), in, gate.Says(api.Word(in)))
		}
		if want := next(at(x, 3)); gate.First(kind) != want || gate.Begin(x.Op) != (api.Mut{Line: 1, Op: x.Op}) {
			t.Fatalf("First(%d) = %d, not %d, and Begin(%v) = %+v", kind, gate.First(kind), want, x.Op, gate.Begin(x.Op))
		}
		there := m == 0 || m == 1
		l := with(mixed(some), 1, api.Word(says))
		if there {
			l = with(l, 5+m, api.Word(in))
		}
		h := from(t, some, l...)
		add, adds := sum()[line]
		switch {
		case adds && there:
			mustStep(t, h, m, x, at(x, next(x)), adding(m, add, api.Word(in)), with(l, 5+m, api.Word(in)+add))
		case adds:
			mustStep(t, h, m, x, at(x, next(x)), api.Access{}, l)
		case line == 2 && says == 0:
			mustStep(t, h, m, x, at(x, 3), looking(0), l)
		case line == 2:
			mustStep(t, h, m, x, at(x, 4), looking(api.Word(says)), l)
		case line == 5 && says == 0:
			mustStep(t, h, m, x, at(x, 6), looking(0), l)
		case line == 5:
			mustStep(t, h, m, x, x, looking(api.Word(says)), l)
		default:
			mustRefuse(t, h, m, x)
			mustHave(t, "on another line", h, api.Access{}, l)
		}
	})
}
