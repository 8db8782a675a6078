package world_test

import (
	"fmt"
	"math"
	"slices"
	"testing"

	"mudlark/api"
	"mudlark/arena"
	"mudlark/collector"
	"mudlark/gate"
	"mudlark/hand"
	"mudlark/ideal"
	"mudlark/lisp"
	"mudlark/op"
	"mudlark/pass"
	"mudlark/place"
	"mudlark/pop"
	"mudlark/world"
)

var (
	least = api.Config{Cells: 2, Muts: 1, Regs: 1, Globs: 0}
	pair  = api.Config{Cells: 3, Muts: 2, Regs: 1, Globs: 0}
	some  = api.Config{Cells: 5, Muts: 2, Regs: 3, Globs: 2}
	more  = api.Config{Cells: 9, Muts: 3, Regs: 2, Globs: 1}
	wide  = api.Config{Cells: 4, Muts: 63, Regs: 2, Globs: 3}
	most  = api.Config{Cells: 4096, Muts: 63, Regs: 64, Globs: 64}
)

func small() []api.Config {
	return []api.Config{least, pair, some, more, {Cells: 12, Muts: 4, Regs: 4, Globs: 3}}
}

// The operations that many tests do.
var (
	set  = api.Op{Kind: api.OpSet, B: 5}
	drop = api.Op{Kind: api.OpSet}
	cons = api.Op{Kind: api.OpCons}
	wild = api.Op{Kind: 99, A: -1, B: 7, C: 8}
)

// sure is a world that must be one.
func sure(t *testing.T, c api.Config, programs ...[]api.Op) *world.World {
	t.Helper()
	w, e := world.New(c, programs...)
	if w == nil || e != api.OK {
		t.Fatalf("New(%v, %v) = %v, %d", c, programs, w, e)
	}
	return w
}

// notThere are numbers of processes that a configuration hasn't.
func notThere(c api.Config) []int {
	return []int{
		-1, -2, -c.Muts, -c.Muts - 1, -64, -1 << 32, math.MinInt, math.MinInt + 1, math.MinInt + c.Muts,
		c.Muts + 1, c.Muts + 2, 2*c.Muts + 1, 64 + c.Muts, 1 << 32, 1<<32 + 1, 1<<32 + c.Muts, math.MaxInt - 1, math.MaxInt,
	}
}

// The accesses that steps do.
func adding(at int, x, old api.Word) api.Access {
	return api.Access{Kind: api.AAdd, At: at, X: x, Old: old}
}

func loading(at int, old api.Word) api.Access {
	return api.Access{Kind: api.ALoad, At: at, Old: old}
}

func storing(at int, x, old api.Word) api.Access {
	return api.Access{Kind: api.AStore, At: at, X: x, Old: old}
}

func shading(at int, old api.Word) api.Access {
	return api.Access{Kind: api.ACas, At: at, X: 0, Y: 1, Old: old}
}

// The notes that picks tell.
func call(p int, x api.Op) api.Note {
	return api.Note{Proc: p, What: api.NCall, Op: x}
}

func lin(p int, x api.Op, n int) api.Note {
	return api.Note{Proc: p, What: api.NLin, Op: x, N: n}
}

func ret(p int, x api.Op, n int) api.Note {
	return api.Note{Proc: p, What: api.NReturn, Op: x, N: n}
}

func told(p, what, n int) api.Note {
	return api.Note{Proc: p, What: what, N: n}
}

func ran(x api.Access, notes ...api.Note) api.Event {
	return api.Event{Ran: true, Access: x, Notes: notes}
}

func sameEvent(a, b api.Event) bool {
	return a.Ran == b.Ran && a.Access == b.Access && slices.Equal(a.Notes, b.Notes)
}

func sameState(a, b api.State) bool {
	return a.Config == b.Config && slices.Equal(a.Words, b.Words) && slices.Equal(a.Muts, b.Muts) && a.Col == b.Col && slices.Equal(a.Left, b.Left)
}

// behind are the words behind an access, as chapter 5 has it.
func behind(l []api.Word, x api.Access) []api.Word {
	l = slices.Clone(l)
	switch {
	case x.Kind == api.AStore:
		l[x.At] = x.X
	case x.Kind == api.ACas && l[x.At] == x.X:
		l[x.At] = x.Y
	case x.Kind == api.AAdd:
		l[x.At] += x.X
	}
	return l
}

// mustAccess holds the words behind a pick against those ahead with the pick's access done.
func mustAccess(t *testing.T, ahead, now []api.Word, x api.Access) {
	t.Helper()
	if x != (api.Access{}) {
		a := arena.New(ahead...)
		if did, ok := a.Do(x); !ok || did != x || !slices.Equal(a.All(), now) {
			t.Fatalf("on the words %v the access %+v is %+v, %v, and makes %v, not %v", ahead, x, did, ok, a.All(), now)
		}
	}
	if want := behind(ahead, x); !slices.Equal(now, want) {
		t.Fatalf("behind the access %+v all words are %v, not %v", x, now, want)
	}
}

// mustPick does a pick, and holds what it did, the words and what else the world tells against what they must be.
func mustPick(t *testing.T, w *world.World, p int, want api.Event) {
	t.Helper()
	ahead := w.State()
	got := w.Pick(p)
	if !sameEvent(got, want) {
		t.Fatalf("Pick(%d) = %+v, not %+v", p, got, want)
	}
	now := w.State()
	mustAccess(t, ahead.Words, now.Words, got.Access)
	mustStay(t, p, ahead, now)
	mustAgree(t, w, now)
}

// mustStay holds what a pick of a process has no business with against what it was.
func mustStay(t *testing.T, p int, ahead, now api.State) {
	t.Helper()
	if now.Config != ahead.Config || len(now.Muts) != len(ahead.Muts) || len(now.Left) != len(ahead.Left) {
		t.Fatalf("behind Pick(%d) the world is one of %v", p, now.Config)
	}
	for m := range now.Muts {
		if m != p && (now.Muts[m] != ahead.Muts[m] || now.Left[m] != ahead.Left[m]) {
			t.Fatalf("behind Pick(%d) the mutator %d is %+v with %d left, not %+v with %d", p, m, now.Muts[m], now.Left[m], ahead.Muts[m], ahead.Left[m])
		}
	}
	if p != now.Config.Muts && now.Col != ahead.Col {
		t.Fatalf("behind Pick(%d) the collector is %+v, not %+v", p, now.Col, ahead.Col)
	}
}

// mustAgree holds Busy and Cycles against the state.
func mustAgree(t *testing.T, w *world.World, s api.State) {
	t.Helper()
	for m, x := range s.Muts {
		if got := w.Busy(m); got != (x.Line != 0) || !got && x != (api.Mut{}) {
			t.Fatalf("Busy(%d) = %v of %+v", m, got, x)
		}
	}
	if got := w.Cycles(); got != s.Col.Cycles {
		t.Fatalf("Cycles() = %d of %+v", got, s.Col)
	}
}

// mustDoNothing picks what nothing is done of.
func mustDoNothing(t *testing.T, w *world.World, picks ...int) {
	t.Helper()
	ahead := w.State()
	for _, p := range picks {
		if got := w.Pick(p); !sameEvent(got, api.Event{}) {
			t.Fatalf("Pick(%d) = %+v", p, got)
		}
		if got := w.Run(p, p); len(got) != 0 {
			t.Fatalf("Run(%d, %d) = %+v", p, p, got)
		}
	}
	if now := w.State(); !sameState(now, ahead) {
		t.Fatalf("behind the picks %v the state is %+v, not %+v", picks, now, ahead)
	}
}

// One mutator, the program set 0 5, the picks 0, 0, 0, 0, 0: call, then lin at the fourth one, return ok at the fifth.
func TestExample(t *testing.T) {
	w := sure(t, least, []api.Op{set})
	for k, r := range []struct {
		did  api.Event
		then api.Mut
	}{
		{ran(adding(5, 1, 0), call(0, set)), api.Mut{Line: 2, Op: set}},
		{ran(loading(1, 0)), api.Mut{Line: 3, Op: set}},
		{ran(adding(5, 1, 1)), api.Mut{Line: 10, Op: set}},
		{ran(storing(6, 10, 0), lin(0, set, 0)), api.Mut{Line: 90, Op: set, Ret: api.RetOK}},
		{ran(adding(5, 2, 2), ret(0, set, api.RetOK)), api.Mut{}},
	} {
		mustPick(t, w, 0, r.did)
		if s := w.State(); s.Muts[0] != r.then || s.Left[0] != 0 || w.Busy(0) != (k < 4) {
			t.Fatalf("behind %d picks the mutator is %+v, with %d left", k+1, s.Muts[0], s.Left[0])
		}
	}
	mustDoNothing(t, w, 0)
	want := api.State{Config: least, Words: []api.Word{1, 0, 0, 0, 0, 4, 10, 0, 3, 0, 0, 0, 0}, Muts: []api.Mut{{}}, Col: api.Col{Line: 1, Tail: 1}, Left: []int{0}}
	if s := w.State(); !sameState(s, want) {
		t.Errorf("at the end the state is %+v", s)
	}
}

// The first of the examples of the whole.
func TestExampleOfTheWhole(t *testing.T) {
	w := sure(t, least, []api.Op{set})
	mustPick(t, w, 0, ran(adding(w.In(0), 1, 0), call(0, set)))
	if w.Name(5) != "in 0" || w.In(0) != 5 {
		t.Error("the place isn't that of in 0")
	}
}

// P20.1

func TestNew(t *testing.T) {
	for _, c := range append(small(), wide, most) {
		w := sure(t, c)
		want := api.State{Config: c, Words: place.First(c), Muts: make([]api.Mut, c.Muts), Col: collector.Begin(c), Left: make([]int, c.Muts)}
		if s := w.State(); !sameState(s, want) {
			t.Errorf("New(%v): the state is %+v", c, s)
		}
		mustAgree(t, w, w.State())
		mustDoNothing(t, w, notThere(c)...)
		for m := range c.Muts {
			mustDoNothing(t, w, m)
		}
	}
}

// programsOf are so many programs, each with as many operations as its number.
func programsOf(count int) [][]api.Op {
	l := make([][]api.Op, count)
	for m := range l {
		l[m] = slices.Repeat([]api.Op{set}, m)
	}
	return l
}

func TestNewOfManyPrograms(t *testing.T) {
	for _, c := range append(small(), wide) {
		for count := range c.Muts + 1 {
			w := sure(t, c, programsOf(count)...)
			for m, left := range w.State().Left {
				want := 0
				if m < count {
					want = m
				}
				if left != want {
					t.Fatalf("%v: of %d programs the mutator %d has %d left", c, count, m, left)
				}
			}
		}
		for _, count := range []int{c.Muts + 1, c.Muts + 2, c.Muts + 64, 1000} {
			for _, l := range [][][]api.Op{make([][]api.Op, count), slices.Repeat([][]api.Op{{}}, count), slices.Repeat([][]api.Op{{set}}, count), slices.Repeat([][]api.Op{{wild}}, count)} {
				if w, e := world.New(c, l...); w != nil || e != api.ErrArg {
					t.Fatalf("%v: New of %d programs = %v, %d", c, count, w, e)
				}
			}
		}
	}
}

func TestNewOfNilAndEmptyPrograms(t *testing.T) {
	c := api.Config{Cells: 2, Muts: 5, Regs: 1}
	w := sure(t, c, nil, []api.Op{set, cons}, []api.Op{}, []api.Op{wild})
	if got := w.State().Left; !slices.Equal(got, []int{0, 2, 0, 1, 0}) {
		t.Fatalf("left are %v", got)
	}
	mustDoNothing(t, w, 0, 2, 4)
	mustPick(t, w, 1, ran(adding(6, 1, 0), call(1, set)))
	mustPick(t, w, 3, ran(api.Access{}, call(3, wild), ret(3, wild, api.RetBad)))
	mustDoNothing(t, w, 0, 2, 3, 4)
	w = sure(t, least, nil)
	mustDoNothing(t, w, 0)
	w = sure(t, least, [][]api.Op{}...)
	mustDoNothing(t, w, 0)
}

// limits are numbers of a configuration that are right just within, and wrong ones beyond.
func limits(least, most int) (right, wrong []int) {
	right = []int{least, least + 1, most - 1, most}
	wrong = []int{least - 1, least - 2, -1, -most, math.MinInt, math.MinInt + 1, most + 1, most + 2, 1 << 32, 1<<32 + least, math.MaxInt - 1, math.MaxInt}
	return right, wrong
}

func TestNewAtLimits(t *testing.T) {
	for k, span := range [][2]int{{2, 4096}, {1, 63}, {1, 64}, {0, 64}} {
		right, wrong := limits(span[0], span[1])
		with := func(n int) api.Config {
			l := [4]int{2, 1, 1, 0}
			l[k] = n
			return api.Config{Cells: l[0], Muts: l[1], Regs: l[2], Globs: l[3]}
		}
		for _, n := range right {
			c := with(n)
			if s := sure(t, c).State(); s.Config != c || !slices.Equal(s.Words, place.First(c)) || len(s.Muts) != c.Muts || len(s.Left) != c.Muts {
				t.Errorf("New(%v): the state is one of %v", c, s.Config)
			}
		}
		for _, n := range wrong {
			for _, programs := range [][][]api.Op{nil, {{set}}, {nil}, {{set}, {set}}, make([][]api.Op, 100)} {
				if w, e := world.New(with(n), programs...); w != nil || e != api.ErrRange {
					t.Errorf("New(%v) of %d programs = %v, %d", with(n), len(programs), w, e)
				}
			}
		}
	}
}

func TestNewOfWrongNumbersTogether(t *testing.T) {
	for _, c := range []api.Config{
		{}, {Cells: 2}, {Cells: 2, Muts: 1}, {Muts: 1, Regs: 1}, {Cells: 4097, Muts: 64, Regs: 65, Globs: 65},
		{Cells: math.MaxInt, Muts: math.MaxInt, Regs: math.MaxInt, Globs: math.MaxInt}, {Cells: math.MinInt, Muts: math.MinInt, Regs: math.MinInt, Globs: math.MinInt},
	} {
		for _, count := range []int{0, 1, 2, 64, 65} {
			if w, e := world.New(c, programsOf(count)...); w != nil || e != api.ErrRange {
				t.Errorf("New(%v) of %d programs = %v, %d", c, count, w, e)
			}
		}
	}
}

// R4: programs are kept by their values alone, and aren't changed; what lies behind their lengths plays no part.
func TestProgramsHandedIn(t *testing.T) {
	memory := []api.Op{set, cons, wild, wild}
	lists := [][]api.Op{memory[:2], memory[:1], {wild}}
	w := sure(t, pair, lists[:2]...)
	if got := w.State().Left; !slices.Equal(got, []int{2, 1}) {
		t.Fatalf("left are %v", got)
	}
	memory[0], memory[1], lists[0], lists[1] = wild, wild, nil, []api.Op{wild, wild}
	kept := slices.Clone(memory)
	mustPick(t, w, 0, ran(adding(5, 1, 0), call(0, set)))
	mustPick(t, w, 1, ran(adding(6, 1, 0), call(1, set)))
	notes := w.Run(slices.Repeat([]int{0, 1}, 60)...)
	if len(notes) != 7 || notes[4] != call(0, cons) {
		t.Fatalf("the notes are %+v", notes)
	}
	mustDoNothing(t, w, 0, 1)
	if !slices.Equal(memory, kept) || lists[0] != nil || len(lists[1]) != 2 || lists[2][0] != wild {
		t.Errorf("the programs handed in are %v, %v", memory, lists)
	}
}

// Two worlds of the same programs go their own ways.
func TestWorldsStayApart(t *testing.T) {
	programs := [][]api.Op{{set, cons}, {cons}}
	a, b := sure(t, pair, programs...), sure(t, pair, programs...)
	ahead := b.State()
	a.Run(slices.Repeat([]int{0, 1, 2}, 100)...)
	if !sameState(b.State(), ahead) {
		t.Errorf("the other world is %+v", b.State())
	}
	mustPick(t, b, 0, ran(adding(5, 1, 0), call(0, set)))
}

// Of processes that there aren't nothing is done, at first, in the middle and at the end.
func TestPickOfNoProcess(t *testing.T) {
	for _, c := range append(small(), wide, most) {
		w := sure(t, c, []api.Op{cons, wild, cons})
		for n := range 70 {
			if n%7 == 0 {
				mustDoNothing(t, w, notThere(c)...)
			}
			w.Pick(0)
			w.Pick(c.Muts)
		}
		mustDoNothing(t, w, append(notThere(c), 0)...)
	}
}

// wrong are operations that aren't right for a configuration: of no kind, and of each kind with one number outside.
func wrong(c api.Config) []api.Op {
	l := []api.Op{{}, {Kind: 12}, {Kind: -1}, {Kind: 99}, {Kind: 1<<32 + 1}, {Kind: math.MinInt}, {Kind: math.MaxInt}}
	out := map[rune][]int{
		'r': {-1, c.Regs, c.Regs + 1, 1 << 32, math.MinInt, math.MaxInt},
		'g': {-1, c.Globs, c.Globs + 1, 1 << 32, math.MinInt, math.MaxInt},
		'k': {-1, -2, math.MinInt},
	}
	for i, has := range []string{"rk", "rr", "rrr", "rr", "rr", "rr", "rr", "rg", "gr", "rr", "r"} {
		for k, what := range has {
			for _, n := range out[what] {
				numbers := [3]int{}
				numbers[k] = n
				l = append(l, api.Op{Kind: i + 1, A: numbers[0], B: numbers[1], C: numbers[2]})
			}
		}
	}
	return l
}

func TestPickOfWrongOperations(t *testing.T) {
	for _, c := range append(small(), most) {
		l := wrong(c)
		for _, m := range []int{0, c.Muts - 1} {
			programs := make([][]api.Op, m+1)
			programs[m] = append(slices.Clone(l), set)
			w := sure(t, c, programs...)
			for k, x := range l {
				mustPick(t, w, m, ran(api.Access{}, call(m, x), ret(m, x, api.RetBad)))
				if s := w.State(); w.Busy(m) || s.Muts[m] != (api.Mut{}) || s.Left[m] != len(l)-k || !slices.Equal(s.Words, place.First(c)) {
					t.Fatalf("%v: behind %+v the state is %+v", c, x, s)
				}
			}
			mustPick(t, w, m, ran(adding(5+m, 1, 0), call(m, set)))
		}
	}
}

// A wrong operation has no access, whatever the access of the pick ahead was.
func TestWrongOperationBehindASteppedOne(t *testing.T) {
	w := sure(t, pair, []api.Op{set}, []api.Op{wild})
	mustPick(t, w, 0, ran(adding(5, 1, 0), call(0, set)))
	mustPick(t, w, 1, ran(api.Access{}, call(1, wild), ret(1, wild, api.RetBad)))
	mustPick(t, w, 0, ran(loading(1, 0)))
	mustDoNothing(t, w, 1)
}

// Numbers that an operation hasn't play no part, but its notes tell them.
func TestNotesHaveTheWholeOperation(t *testing.T) {
	for _, x := range []api.Op{
		{Kind: api.OpSet, A: 0, B: 3, C: math.MinInt}, {Kind: api.OpMove, C: -5}, {Kind: api.OpEq, C: 1 << 40}, {Kind: api.OpAtom, B: -1, C: math.MaxInt}, {Kind: api.OpCar, C: 99}, {Kind: api.OpRplacd, C: -99},
	} {
		w := sure(t, least, []api.Op{x})
		var got []api.Note
		for range 12 {
			got = append(got, w.Pick(0).Notes...)
		}
		if len(got) != 3 || got[0] != call(0, x) || got[1] != lin(0, x, 0) || got[2] != ret(0, x, got[2].N) {
			t.Errorf("the notes of %+v are %+v", x, got)
		}
	}
}

// By hand: two operations by one mutator on two cells, the second one of which finds no cell.
func TestConsByHand(t *testing.T) {
	w := sure(t, least, []api.Op{cons, cons})
	for _, did := range []api.Event{
		ran(adding(5, 1, 0), call(0, cons)),
		ran(loading(1, 0)),
		ran(adding(5, 1, 1)),
		ran(loading(6, 0)),
		ran(loading(6, 0)),
		ran(adding(3, 1, 0)),
		ran(loading(4, 0)),
		ran(loading(0, 1)),
		ran(loading(8, 3)),
		ran(storing(0, 3, 1), lin(0, cons, 0)),
		ran(shading(12, 0)),
		ran(storing(2, 1, 0)),
		ran(adding(4, 1, 0)),
		ran(storing(7, 0, 0)),
		ran(storing(8, 0, 3)),
		ran(storing(6, 1, 0)),
		ran(shading(9, 0)),
		ran(storing(2, 1, 1)),
		ran(adding(5, 2, 2), ret(0, cons, api.RetOK)),
		ran(adding(5, 1, 4), call(0, cons)),
		ran(loading(1, 0)),
		ran(adding(5, 1, 5)),
		ran(loading(6, 1)),
		ran(loading(6, 1)),
		ran(adding(3, 1, 1)),
		ran(loading(4, 1)),
		ran(loading(0, 3)),
		ran(loading(11, 0), lin(0, cons, api.RetFull)),
		ran(adding(4, 1, 1)),
		ran(adding(5, 2, 6), ret(0, cons, api.RetFull)),
	} {
		mustPick(t, w, 0, did)
	}
	mustDoNothing(t, w, 0)
	if got := w.All(); !slices.Equal(got, []api.Word{3, 0, 1, 2, 2, 8, 1, 0, 0, 1, 0, 0, 1}) {
		t.Errorf("all words are %v", got)
	}
}

// By hand: two mutators and the lock: the second one waits till the first one has given it back.
func TestTwoMutatorsByHand(t *testing.T) {
	w := sure(t, pair, []api.Op{cons}, []api.Op{cons})
	// Places: in 5 and 6, registers 7 and 8, cells from 9 on.
	w.Run(0, 1, 0, 1, 0, 1, 0, 1, 0, 1)
	for _, r := range []struct {
		p   int
		did api.Event
	}{
		{1, ran(adding(3, 1, 0))},
		{0, ran(adding(3, 1, 1))},
		{0, ran(loading(4, 0))},
		{0, ran(loading(4, 0))},
		{1, ran(loading(4, 0))},
		{0, ran(loading(4, 0))},
		{1, ran(loading(0, 1))},
		{1, ran(loading(10, 3))},
		{1, ran(storing(0, 3, 1), lin(1, cons, 0))},
		{0, ran(loading(4, 0))},
		{1, ran(shading(14, 0))},
		{1, ran(storing(2, 1, 0))},
		{1, ran(adding(4, 1, 0))},
		{0, ran(loading(4, 1))},
		{0, ran(loading(0, 3))},
		{0, ran(loading(13, 5))},
		{0, ran(storing(0, 5, 3), lin(0, cons, 0))},
		{1, ran(storing(9, 0, 0))},
		{1, ran(storing(10, 0, 3))},
		{1, ran(storing(8, 1, 0))},
		{1, ran(shading(11, 0))},
		{1, ran(storing(2, 1, 1))},
		{1, ran(adding(6, 2, 2), ret(1, cons, api.RetOK))},
		{0, ran(shading(17, 0))},
	} {
		mustPick(t, w, r.p, r.did)
	}
	if !w.Busy(0) || w.Busy(1) {
		t.Errorf("busy are %v, %v", w.Busy(0), w.Busy(1))
	}
}

// By hand: the collector by itself, its flip and its cycle.
func TestCollectorByHand(t *testing.T) {
	w := sure(t, least)
	cycle := func(n int) []api.Event {
		return []api.Event{
			ran(loading(0, 1)),
			ran(shading(9, 0)),
			ran(loading(6, 0)),
			ran(storing(2, 0, 0)),
			ran(loading(9, 1)),
			ran(loading(7, 0)),
			ran(loading(8, 3)),
			ran(shading(12, 0)),
			ran(storing(9, 2, 1)),
			ran(loading(12, 1)),
			ran(loading(10, 0)),
			ran(loading(11, 0)),
			ran(storing(12, 2, 1)),
			ran(storing(2, 0, 0)),
			ran(loading(9, 2)),
			ran(loading(12, 2)),
			ran(loading(5, 0)),
			ran(storing(1, 1, 0)),
			ran(loading(5, 0)),
			ran(loading(2, 0), told(1, api.NFlip, 0)),
			ran(storing(1, 0, 1)),
			ran(loading(9, 2)),
			ran(storing(9, 0, 2)),
			ran(loading(12, 2)),
			ran(storing(12, 0, 2), told(1, api.NCycle, n)),
		}
	}
	for n := range 3 {
		if w.Cycles() != n {
			t.Fatalf("%d cycles are over, not %d", w.Cycles(), n)
		}
		for _, did := range cycle(n + 1) {
			mustPick(t, w, 1, did)
		}
	}
	if s := w.State(); s.Col != (api.Col{Line: 1, C: 2, Tail: 1, Cycles: 3}) || !slices.Equal(s.Words, place.First(least)) {
		t.Errorf("at the end the state is %+v", s)
	}
}

// toTheEnd picks a mutator till it has nothing to do.
func toTheEnd(t *testing.T, w *world.World, m int) []api.Note {
	t.Helper()
	var l []api.Note
	for range 10000 {
		e := w.Pick(m)
		if !e.Ran {
			return l
		}
		l = append(l, e.Notes...)
	}
	t.Fatalf("the mutator %d comes to no end", m)
	return nil
}

// pickTill picks a process till the state is one.
func pickTill(t *testing.T, w *world.World, p int, is func(s api.State) bool) {
	t.Helper()
	for range 1000 {
		if is(w.State()) {
			return
		}
		w.Pick(p)
	}
	t.Fatalf("the process %d comes to %+v", p, w.State())
}

// round picks the collector till a cycle is over: the events that have notes.
func round(t *testing.T, w *world.World) []api.Event {
	t.Helper()
	var l []api.Event
	c := w.Config
	for range 1000000 {
		ahead := w.Cycles()
		e := w.Pick(c.Muts)
		if !e.Ran {
			t.Fatalf("the collector did nothing: %+v", e)
		}
		if len(e.Notes) > 0 {
			l = append(l, e)
		}
		if w.Cycles() != ahead {
			return l
		}
	}
	t.Fatalf("%v: the cycle %d isn't over", c, w.Cycles())
	return nil
}

// notesOf are the notes of events, event by event.
func notesOf(l []api.Event) string {
	s := ""
	for _, e := range l {
		s += fmt.Sprint(e.Notes)
	}
	return s
}

// By hand: cells 0 and 1 are taken and let go, the cycle that finds them shaded leaves them, the next one appends them; then the cell 2, which comes last, is appended by the step by which its cycle is over.
func TestAppendAndCycle(t *testing.T) {
	w := sure(t, api.Config{Cells: 3, Muts: 1, Regs: 1}, []api.Op{cons, cons, drop})
	toTheEnd(t, w, 0)
	want := func(what string, got []api.Event, notes ...[]api.Note) {
		t.Helper()
		var l []api.Event
		for _, n := range notes {
			l = append(l, ran(api.Access{}, n...))
		}
		if notesOf(got) != notesOf(l) {
			t.Fatalf("%s: the notes are %v, not %v", what, notesOf(got), notesOf(l))
		}
	}
	flip := []api.Note{told(1, api.NFlip, 0)}
	over := func(n int) []api.Note { return []api.Note{told(1, api.NCycle, n)} }
	put := func(i int) []api.Note { return []api.Note{told(1, api.NAppend, i)} }
	want("shaded", round(t, w), flip, over(1))
	want("let go", round(t, w), flip, put(0), put(1), over(2))
	want("free", round(t, w), flip, over(3))
	if got, ok := pop.List(w.Config, w.All()...); !ok || !slices.Equal(got, []int{2, 0, 1}) {
		t.Fatalf("the free list is %v, %v", got, ok)
	}
	other := sure(t, w.Config, []api.Op{cons, cons, drop, cons, drop})
	// But for the last two operations the same is done.
	pickTill(t, other, 0, func(s api.State) bool { return s.Left[0] == 2 && s.Muts[0].Line == 0 })
	for range 3 {
		round(t, other)
	}
	toTheEnd(t, other, 0)
	want("taken", round(t, other), flip, over(4))
	last := round(t, other)
	want("last", last, flip, []api.Note{told(1, api.NAppend, 2), told(1, api.NCycle, 5)})
	// The step's access: the cell 2, as the word 5, is stored into the cdr of the cell 1.
	if did := last[1].Access; did != storing(11, 5, 0) {
		t.Errorf("the access of the last step is %+v", did)
	}
}

// A closed gate: who finds it closed says so, waits, and is inside at its next step behind its opening.
func TestGateByHand(t *testing.T) {
	w := sure(t, least, []api.Op{set})
	pickTill(t, w, 1, func(s api.State) bool { return s.Col.Line == 13 })
	for _, r := range []struct {
		p   int
		did api.Event
	}{
		{0, ran(adding(5, 1, 0), call(0, set))},
		{0, ran(loading(1, 1))},
		{0, ran(adding(5, 2, 1))},
		{0, ran(loading(1, 1))},
		{0, ran(loading(1, 1))},
		{1, ran(loading(2, 0), told(1, api.NFlip, 0))},
		{0, ran(loading(1, 1))},
		{1, ran(storing(1, 0, 1))},
		{0, ran(loading(1, 0))},
		{0, ran(adding(5, 3, 3))},
		{0, ran(storing(6, 10, 0), lin(0, set, 0))},
		{0, ran(adding(5, 2, 6), ret(0, set, api.RetOK))},
	} {
		mustPick(t, w, r.p, r.did)
	}
}

// Each kind of operation by hand: when it is linearised, and what it results in.
func TestResultsByHand(t *testing.T) {
	c := api.Config{Cells: 4, Muts: 1, Regs: 3, Globs: 1}
	program := []api.Op{
		{Kind: api.OpCar, A: 1, B: 0}, {Kind: api.OpRplacd, A: 2, B: 0}, {Kind: api.OpEq, A: 0, B: 1}, {Kind: api.OpAtom, A: 0},
		{Kind: api.OpCons, A: 0, B: 1, C: 2}, {Kind: api.OpAtom, A: 0}, {Kind: api.OpEq, A: 0, B: 1}, {Kind: api.OpPut, A: 0, B: 0}, {Kind: api.OpGet, A: 1, B: 0},
		{Kind: api.OpEq, A: 0, B: 1}, {Kind: api.OpMove, A: 2, B: 1}, {Kind: api.OpRplaca, A: 2, B: 0}, {Kind: api.OpCar, A: 1, B: 0}, {Kind: api.OpEq, A: 1, B: 2}, {Kind: api.OpCdr, A: 1, B: 0}, {Kind: api.OpAtom, A: 1},
		{Kind: api.OpGet, A: 1, B: 1}, {Kind: api.OpSet, A: 1, B: math.MaxInt}, {Kind: api.OpCons}, {Kind: api.OpCons}, {Kind: api.OpCons}, {Kind: api.OpRplaca, A: 1, B: 1},
	}
	results := []int{
		api.RetAtom, api.RetAtom, api.RetTrue, api.RetTrue,
		api.RetOK, api.RetFalse, api.RetFalse, api.RetOK, api.RetOK,
		api.RetTrue, api.RetOK, api.RetOK, api.RetOK, api.RetTrue, api.RetOK, api.RetTrue,
		api.RetBad, api.RetOK, api.RetOK, api.RetOK, api.RetFull, api.RetAtom,
	}
	var want []api.Note
	for k, x := range program {
		want = append(want, call(0, x))
		switch results[k] {
		case api.RetBad:
		case api.RetFull:
			want = append(want, lin(0, x, api.RetFull))
		default:
			want = append(want, lin(0, x, 0))
		}
		want = append(want, ret(0, x, results[k]))
	}
	w := sure(t, c, program)
	if got := toTheEnd(t, w, 0); !slices.Equal(got, want) {
		t.Errorf("the notes are %v, not %v", got, want)
	}
	if got := w.State().Words[w.Reg(0, 1)]; got != math.MaxUint64-1 {
		t.Errorf("the register 1 is %d", got)
	}
}

// P20.2

// model is a world of the layers' own steps, on a hand of its own.
type model struct {
	h    *hand.Hand
	muts []api.Mut
	left [][]api.Op
	col  api.Col
	over int
}

func modelOf(t *testing.T, c api.Config, programs ...[]api.Op) *model {
	t.Helper()
	h, e := hand.New(c)
	if e != api.OK {
		t.Fatal(e)
	}
	d := &model{h: h, muts: make([]api.Mut, c.Muts), left: make([][]api.Op, c.Muts), col: collector.Begin(c)}
	copy(d.left, programs)
	return d
}

// pick does a pick as the chapter's words tell it.
func (d *model) pick(p int) api.Event {
	c := d.h.Config
	if p == c.Muts {
		return d.collect()
	}
	if p < 0 || p > c.Muts || d.muts[p].Line == 0 && len(d.left[p]) == 0 {
		return api.Event{}
	}
	e := api.Event{Ran: true}
	if d.muts[p].Line == 0 {
		x := d.left[p][0]
		d.left[p] = d.left[p][1:]
		e.Notes = append(e.Notes, call(p, x))
		if op.Check(c, x) != api.OK {
			e.Notes = append(e.Notes, ret(p, x, api.RetBad))
			return e
		}
		d.muts[p] = gate.Begin(x)
	}
	ahead := d.muts[p]
	next, isLin, done := lisp.Step(d.h, p, ahead)
	e.Access = d.h.Access
	if isLin {
		n := 0
		if ahead.Line == 35 { // the line on which no cell is found
			n = api.RetFull
		}
		e.Notes = append(e.Notes, lin(p, ahead.Op, n))
	}
	d.muts[p] = next
	if done {
		e.Notes = append(e.Notes, ret(p, ahead.Op, next.Ret))
		d.muts[p] = api.Mut{}
	}
	return e
}

// collect tells the collector's notes by its lines.
func (d *model) collect() api.Event {
	p := d.h.Muts
	ahead := d.col
	d.col, _ = collector.Step(d.h, ahead)
	e := api.Event{Ran: true, Access: d.h.Access}
	if ahead.Line == 13 && d.col.Line == 14 {
		e.Notes = append(e.Notes, told(p, api.NFlip, 0))
	}
	if ahead.Line == 23 {
		e.Notes = append(e.Notes, told(p, api.NAppend, ahead.C))
	}
	if ahead.Line >= 20 && d.col.Line == 1 {
		d.over++
		e.Notes = append(e.Notes, told(p, api.NCycle, d.over))
	}
	return e
}

func (d *model) state() api.State {
	s := api.State{Config: d.h.Config, Words: d.h.All(), Muts: slices.Clone(d.muts), Col: d.col}
	for _, l := range d.left {
		s.Left = append(s.Left, len(l))
	}
	return s
}

// drawn are numbers below n, in an order that is none, the same each time.
func drawn(seed int) func(n int) int {
	x := uint64(seed)*0x9e3779b97f4a7c15 + 0x1234567
	return func(n int) int {
		x = x*6364136223846793005 + 1442695040888963407
		return int(x >> 33 % uint64(n))
	}
}

// programsFor are programs of all kinds of operations; one in so many is wrong.
func programsFor(c api.Config, seed, length int) [][]api.Op {
	draw := drawn(seed)
	bad := wrong(c)
	number := func(what rune) int {
		switch {
		case what == 'g' && c.Globs > 0:
			return draw(c.Globs)
		case what == 'k':
			return draw(3)
		}
		return draw(c.Regs)
	}
	has := []string{"rk", "rr", "rrr", "rr", "rr", "rr", "rr", "rg", "gr", "rr", "r"}
	// cons comes often, so that cells get few.
	kinds := []int{1, 2, 3, 3, 3, 3, 4, 5, 6, 7, 8, 9, 10, 11}
	programs := make([][]api.Op, c.Muts)
	for m := range programs {
		for range draw(length + 1) {
			if draw(16) == 0 {
				programs[m] = append(programs[m], bad[draw(len(bad))])
				continue
			}
			x := api.Op{Kind: kinds[draw(len(kinds))]}
			for k, what := range has[x.Kind-1] {
				*[]*int{&x.A, &x.B, &x.C}[k] = number(what)
			}
			programs[m] = append(programs[m], x)
		}
	}
	return programs
}

// orders are orders of picks: round by round, from behind, one process by itself for long, the collector ahead, seldom, or not at all, and in no plain order, with processes that there aren't.
func orders(c api.Config, seed int) []func(k int) int {
	n := c.Muts + 1
	draw, other, third := drawn(seed), drawn(seed+1000), drawn(seed+2000)
	burst := 0
	return []func(k int) int{
		func(k int) int { return k % n },
		func(k int) int { return n - 1 - k%n },
		func(k int) int { return k / 37 % n },
		func(k int) int { return k / 400 % n },
		func(k int) int {
			if k%2 == 0 {
				return c.Muts
			}
			return k / 2 % n
		},
		func(k int) int {
			if k%50 == 0 {
				return c.Muts
			}
			return k % c.Muts
		},
		func(k int) int { return k % c.Muts },
		func(int) int { return draw(n) },
		func(int) int { return draw(n+2) - 1 },
		func(int) int {
			if other(9) == 0 {
				burst = other(n)
			}
			return burst
		},
		func(int) int {
			if third(3) > 0 {
				return c.Muts
			}
			return third(n)
		},
	}
}

// seen counts what whole runs have met, so that they are known to meet all of it.
type seen struct {
	kinds   [12]int
	results [7]int
	notes   [7]int
	both    int // an append and a cycle in one step
	bare    int // picks that did something without access
	none    int // picks that did nothing
	waits   int
}

func (s *seen) count(e api.Event, x api.Mut) {
	for _, n := range e.Notes {
		s.notes[n.What]++
		switch n.What {
		case api.NCall:
			if n.Op.Kind > 0 && n.Op.Kind < len(s.kinds) {
				s.kinds[n.Op.Kind]++
			}
		case api.NReturn:
			s.results[n.N]++
		}
	}
	if len(e.Notes) == 2 && e.Notes[0].What == api.NAppend {
		s.both++
	}
	if e.Ran && e.Access == (api.Access{}) {
		s.bare++
	}
	if !e.Ran {
		s.none++
	}
	if x.Line == 5 {
		s.waits++
	}
}

func (s *seen) mustBeAll(t *testing.T) {
	t.Helper()
	if slices.Contains(s.kinds[1:], 0) || slices.Contains(s.results[1:], 0) || slices.Contains(s.notes[1:], 0) || s.both == 0 || s.bare == 0 || s.none == 0 || s.waits == 0 {
		t.Errorf("the runs have met %+v", s)
	}
}

// judge is an ideal store that does each operation at its linearising step: results must be those.
type judge struct {
	s       *ideal.Store
	results []int
}

func judgeOf(t *testing.T, c api.Config) *judge {
	t.Helper()
	s, e := ideal.New(c.Muts, c.Regs, c.Globs)
	if e != api.OK {
		t.Fatal(e)
	}
	return &judge{s, make([]int, c.Muts)}
}

func (j *judge) see(t *testing.T, n api.Note) {
	t.Helper()
	switch n.What {
	case api.NCall:
		j.results[n.Proc] = api.RetBad
	case api.NLin:
		if j.results[n.Proc] != api.RetBad {
			t.Fatalf("%+v comes twice", n)
		}
		j.results[n.Proc] = j.s.Do(n.Proc, n.Op, n.N == api.RetFull)
	case api.NReturn:
		if n.N != j.results[n.Proc] {
			t.Fatalf("%+v: the ideal store's result is %d", n, j.results[n.Proc])
		}
	}
}

// mustGoOn does a pick of a world and of its model, and holds all that they tell against each other.
func mustGoOn(t *testing.T, w *world.World, d *model, j *judge, s *seen, p int) {
	t.Helper()
	ahead := d.h.All()
	want := d.pick(p)
	got := w.Pick(p)
	if !sameEvent(got, want) {
		t.Fatalf("%v: Pick(%d) = %+v, not %+v", w.Config, p, got, want)
	}
	state, now := d.state(), w.State()
	if !sameState(now, state) {
		t.Fatalf("%v: behind Pick(%d) the state is %+v, not %+v", w.Config, p, now, state)
	}
	mustAccess(t, ahead, now.Words, got.Access)
	mustAgree(t, w, now)
	var x api.Mut
	if p >= 0 && p < len(now.Muts) {
		x = now.Muts[p]
	}
	s.count(got, x)
	for _, n := range got.Notes {
		j.see(t, n)
		if greys := pass.Greys(now.Config, now.Words...); n.What == api.NFlip && len(greys) > 0 {
			t.Fatalf("%v: at the flip %v are grey", now.Config, greys)
		}
	}
	if _, ok := pop.List(now.Config, now.Words...); !ok {
		t.Fatalf("%v: behind Pick(%d) there is no free list in %v", now.Config, p, now.Words)
	}
}

// mustRun holds a whole run against the model's, and goes on round by round till nobody has an operation.
func mustRun(t *testing.T, c api.Config, programs [][]api.Op, order func(k int) int, picks int, s *seen) {
	t.Helper()
	w, d, j := sure(t, c, programs...), modelOf(t, c, programs...), judgeOf(t, c)
	for k := range picks {
		mustGoOn(t, w, d, j, s, order(k))
	}
	for k := range 100000 {
		st := w.State()
		if slices.Max(st.Left) == 0 && !slices.ContainsFunc(st.Muts, func(x api.Mut) bool { return x.Line != 0 }) {
			return
		}
		mustGoOn(t, w, d, j, s, k%(c.Muts+1))
	}
	t.Fatalf("%v: the programs %v come to no end", c, programs)
}

// Whole runs of several mutators and the collector, in many orders, beside the layers' own steps on a hand of one's own.
func TestWholeRuns(t *testing.T) {
	var s seen
	for _, c := range small() {
		for seed := range 6 {
			for _, order := range orders(c, seed) {
				mustRun(t, c, programsFor(c, seed, 14), order, 1500, &s)
			}
		}
	}
	s.mustBeAll(t)
}

func TestWholeRunsOfManyMutators(t *testing.T) {
	var s seen
	for k, order := range orders(wide, 3) {
		mustRun(t, wide, programsFor(wide, k+50, 3), order, 4000, &s)
	}
	// With so few cells for so many registers hardly a cell is let go, so nothing need be appended.
	if slices.Contains(s.kinds[1:], 0) || slices.Contains(s.results[1:], 0) || s.notes[api.NFlip] == 0 || s.notes[api.NCycle] == 0 || s.waits == 0 {
		t.Errorf("the runs have met %+v", s)
	}
}

// Two cells: but one can be had at a time, and often none is free.
func TestWholeRunsOfTwoCells(t *testing.T) {
	var s seen
	for _, c := range []api.Config{least, {Cells: 2, Muts: 2, Regs: 1}, {Cells: 2, Muts: 3, Regs: 2, Globs: 1}} {
		for seed := range 8 {
			for _, order := range orders(c, seed+100) {
				mustRun(t, c, programsFor(c, seed+200, 20), order, 1500, &s)
			}
		}
	}
	if s.results[api.RetFull] < 100 || s.results[api.RetOK] < 100 || s.notes[api.NAppend] < 20 {
		t.Errorf("the runs have met %+v", s)
	}
}

// Run beside as many single picks.
func TestRun(t *testing.T) {
	for _, c := range append(small(), wide) {
		for seed := range 3 {
			for _, order := range orders(c, seed) {
				programs := programsFor(c, seed+300, 9)
				one, many, all := sure(t, c, programs...), sure(t, c, programs...), sure(t, c, programs...)
				var picks []int
				var want, got []api.Note
				for k := range 400 {
					picks = append(picks, order(k))
					want = append(want, one.Pick(picks[k]).Notes...)
				}
				for k := 0; k < len(picks); {
					next := min(len(picks), k+k%7)
					if next == k {
						next++
					}
					got = append(got, many.Run()...)
					got = append(got, many.Run(picks[k:next]...)...)
					k = next
				}
				if !slices.Equal(got, want) || !sameState(many.State(), one.State()) {
					t.Fatalf("%v: by some at a time the notes are %v, not %v", c, got, want)
				}
				if got := all.Run(picks...); !slices.Equal(got, want) || !sameState(all.State(), one.State()) {
					t.Fatalf("%v: by all at a time the notes are %v, not %v", c, got, want)
				}
			}
		}
	}
}

func TestRunByHand(t *testing.T) {
	w := sure(t, pair, []api.Op{set}, []api.Op{wild, drop})
	if got := w.Run(); len(got) != 0 {
		t.Errorf("of no pick the notes are %v", got)
	}
	if got := w.Run([]int{}...); len(got) != 0 {
		t.Errorf("of no pick the notes are %v", got)
	}
	if got := w.Run(2); len(got) != 0 || w.State().Col.Line != 2 {
		t.Errorf("of one pick of the collector the notes are %v", got)
	}
	if got := w.Run(1); !slices.Equal(got, []api.Note{call(1, wild), ret(1, wild, api.RetBad)}) {
		t.Errorf("of one pick the notes are %v", got)
	}
	picks := []int{0, 1, -1, 0, 3, 1, 0, 1, 0, 1, math.MaxInt, 1, 0, 0, 1}
	kept := slices.Clone(picks)
	want := []api.Note{call(0, set), call(1, drop), lin(0, set, 0), lin(1, drop, 0), ret(1, drop, 1), ret(0, set, 1)}
	if got := w.Run(picks[:14]...); !slices.Equal(got, want) {
		t.Errorf("the notes are %v, not %v", got, want)
	}
	if !slices.Equal(picks, kept) {
		t.Errorf("the picks handed in are %v", picks)
	}
}

// A long run of the greatest configuration.
func TestRunOfMost(t *testing.T) {
	programs := programsFor(most, 7, 3)
	w, d := sure(t, most, programs...), modelOf(t, most, programs...)
	var want []api.Note
	picks := make([]int, 0, 250000)
	for k := range cap(picks) {
		p := k % 64
		if k > 150000 {
			p = 63
		}
		picks = append(picks, p)
		want = append(want, d.pick(p).Notes...)
	}
	if got := w.Run(picks...); !slices.Equal(got, want) || !sameState(w.State(), d.state()) || w.Cycles() == 0 {
		t.Errorf("behind %d picks %d cycles are over, with %d notes of %d", len(picks), w.Cycles(), len(got), len(want))
	}
}

// scrawl writes over all that a state has.
func scrawl(s api.State) {
	for at := range s.Words {
		s.Words[at] = 0x5555
	}
	for m := range s.Muts {
		s.Muts[m] = api.Mut{Line: 30, Op: wild, Ret: 9}
		s.Left[m] = 77
	}
	_ = append(s.Words[:1], 1, 2, 3)
	_ = append(s.Muts[:0], api.Mut{Line: 1})
	_ = append(s.Left[:0], 5)
}

// R4: a state is new: it may be written over, and it stays when the world goes on.
func TestStateIsNew(t *testing.T) {
	for _, c := range small() {
		programs := programsFor(c, 11, 8)
		w, d := sure(t, c, programs...), modelOf(t, c, programs...)
		first := w.State()
		kept := d.state()
		for k := range 600 {
			scrawl(w.State())
			p := k % (c.Muts + 1)
			want := d.pick(p)
			if got := w.Pick(p); !sameEvent(got, want) {
				t.Fatalf("%v: behind a state that was written over Pick(%d) = %+v, not %+v", c, p, got, want)
			}
			a, b := w.State(), w.State()
			scrawl(a)
			if !sameState(b, d.state()) {
				t.Fatalf("%v: the state is %+v, not %+v", c, b, d.state())
			}
		}
		if !sameState(first, kept) {
			t.Errorf("%v: a state that was kept is %+v", c, first)
		}
	}
}

// R4: notes are new, too.
func TestNotesAreNew(t *testing.T) {
	w := sure(t, pair, []api.Op{wild, set, wild}, []api.Op{wild})
	first := w.Pick(0)
	kept := slices.Clone(first.Notes)
	second := w.Pick(1)
	second.Notes[0], second.Notes[1] = api.Note{}, api.Note{}
	_ = append(second.Notes[:1], api.Note{Proc: 9})
	third := w.Run(0, 0)
	fourth := w.Run(0, 0, 0, 0, 0)
	third[0] = api.Note{}
	_ = append(third, api.Note{Proc: 9})
	if !slices.Equal(first.Notes, kept) {
		t.Errorf("notes that were kept are %v", first.Notes)
	}
	if want := []api.Note{lin(0, set, 0), ret(0, set, 1), call(0, wild), ret(0, wild, api.RetBad)}; !slices.Equal(fourth, want) {
		t.Errorf("the notes are %v, not %v", fourth, want)
	}
}

// By hand: how many are left falls as operations begin, wrong ones too, and there is no Mut where there is no operation.
func TestStateByHand(t *testing.T) {
	w := sure(t, pair, []api.Op{set, wild, drop}, []api.Op{set})
	for k, r := range []struct {
		p    int
		left []int
		muts []api.Mut
	}{
		{0, []int{2, 1}, []api.Mut{{Line: 2, Op: set}, {}}},
		{0, []int{2, 1}, []api.Mut{{Line: 3, Op: set}, {}}},
		{0, []int{2, 1}, []api.Mut{{Line: 10, Op: set}, {}}},
		{1, []int{2, 0}, []api.Mut{{Line: 10, Op: set}, {Line: 2, Op: set}}},
		{0, []int{2, 0}, []api.Mut{{Line: 90, Op: set, Ret: 1}, {Line: 2, Op: set}}},
		{0, []int{2, 0}, []api.Mut{{}, {Line: 2, Op: set}}},
		{0, []int{1, 0}, []api.Mut{{}, {Line: 2, Op: set}}},
		{1, []int{1, 0}, []api.Mut{{}, {Line: 3, Op: set}}},
		{0, []int{0, 0}, []api.Mut{{Line: 2, Op: drop}, {Line: 3, Op: set}}},
	} {
		w.Pick(r.p)
		if s := w.State(); !slices.Equal(s.Left, r.left) || !slices.Equal(s.Muts, r.muts) {
			t.Fatalf("behind %d picks the state is %+v", k+1, s)
		}
		for m, x := range r.muts {
			if w.Busy(m) != (x.Line != 0) {
				t.Fatalf("behind %d picks Busy(%d) = %v", k+1, m, w.Busy(m))
			}
		}
	}
}

func TestBusyOfNoMutator(t *testing.T) {
	for _, c := range append(small(), wide, most) {
		w := sure(t, c, slices.Repeat([][]api.Op{{set}}, c.Muts)...)
		for m := range c.Muts {
			if w.Busy(m) {
				t.Fatalf("%v: at first Busy(%d)", c, m)
			}
			w.Pick(m)
			if !w.Busy(m) {
				t.Fatalf("%v: behind its pick not Busy(%d)", c, m)
			}
		}
		w.Pick(c.Muts)
		for _, m := range append(notThere(c), c.Muts) {
			if w.Busy(m) {
				t.Errorf("%v: Busy(%d)", c, m)
			}
		}
		for m := range c.Muts {
			toTheEnd(t, w, m)
			if w.Busy(m) {
				t.Fatalf("%v: at the end Busy(%d)", c, m)
			}
		}
	}
}

func TestCycles(t *testing.T) {
	for _, c := range append(small(), wide) {
		w := sure(t, c, []api.Op{cons, drop})
		toTheEnd(t, w, 0)
		for n := range 4 {
			if w.Cycles() != n || w.State().Col.Cycles != n {
				t.Fatalf("%v: %d cycles are over, not %d", c, w.Cycles(), n)
			}
			l := round(t, w)
			notes := l[len(l)-1].Notes
			if got := notes[len(notes)-1]; got != told(c.Muts, api.NCycle, n+1) {
				t.Fatalf("%v: the last note is %+v", c, got)
			}
			if l[0].Notes[0] != told(c.Muts, api.NFlip, 0) {
				t.Fatalf("%v: the first notes are %v", c, l[0].Notes)
			}
		}
	}
}

// A world has its hand's memory and map: what they can do it can do.
func TestWorldHasAHand(t *testing.T) {
	w := sure(t, some, []api.Op{cons})
	for _, p := range []int{0, 2, 0, 2, 0} {
		w.Pick(p)
	}
	if !slices.Equal(w.All(), w.State().Words) || w.Len() != w.Size() || w.Config != some || w.Cells != 5 || w.Muts != 2 || w.Car(0) != 15 {
		t.Errorf("the world's memory is %v, of %v", w.All(), w.Config)
	}
	// What is stored from outside is what the next steps find.
	w.Store(w.Reg(0, 0), 7)
	if got := w.State().Words[w.Reg(0, 0)]; got != 7 {
		t.Fatalf("the register is %d", got)
	}
	mustPick(t, w, 0, ran(loading(w.Reg(0, 0), 7)))
	// An access from outside is none of a pick's.
	w.Load(w.Reg(0, 0))
	mustDoNothing(t, w, 1, -1, 3)
}

// Of a nil world: nothing is done; zero values.
func TestNilWorld(t *testing.T) {
	mustBeNone(t, nil)
}

// No call of a world that New didn't make panics, either.
func TestZeroWorld(t *testing.T) {
	mustBeNone(t, &world.World{})
}

func mustBeNone(t *testing.T, w *world.World) {
	t.Helper()
	for _, p := range append(notThere(least), 0, 1, 2, 63, 64) {
		if got := w.Pick(p); !sameEvent(got, api.Event{}) {
			t.Errorf("Pick(%d) = %+v", p, got)
		}
		if got := w.Run(p, 0, p); len(got) != 0 {
			t.Errorf("Run(%d, 0, %d) = %v", p, p, got)
		}
		if w.Busy(p) {
			t.Errorf("Busy(%d)", p)
		}
	}
	if got := w.Run(); len(got) != 0 {
		t.Errorf("Run() = %v", got)
	}
	if got := w.State(); !sameState(got, api.State{}) {
		t.Errorf("State() = %+v", got)
	}
	if got := w.Cycles(); got != 0 {
		t.Errorf("Cycles() = %d", got)
	}
}

// P20.3

// The accesses of all picks, done again on the words at first, make all words.
func TestAccessesDoneAgain(t *testing.T) {
	for _, c := range append(small(), wide) {
		for seed, order := range orders(c, 5) {
			w := sure(t, c, programsFor(c, seed+400, 10)...)
			a := arena.New(place.First(c)...)
			for k := range 1500 {
				e := w.Pick(order(k))
				if e.Access == (api.Access{}) {
					continue
				}
				if did, ok := a.Do(e.Access); !ok || did != e.Access {
					t.Fatalf("%v: done again %+v is %+v, %v", c, e.Access, did, ok)
				}
				if !slices.Equal(a.All(), w.All()) {
					t.Fatalf("%v: behind %d accesses all words are %v, not %v", c, k, a.All(), w.All())
				}
			}
		}
	}
}

// Whatever words there are, no pick panics, and each one does its own access alone.
func TestWordsFromOutside(t *testing.T) {
	words := []api.Word{0, 1, 2, 3, 5, 9, 8191, 8193, 1 << 32, 1<<63 + 1, math.MaxUint64 - 1, math.MaxUint64}
	for _, c := range small() {
		for seed := range 20 {
			draw := drawn(seed + 70)
			w := sure(t, c, programsFor(c, seed, 6)...)
			for range 1500 {
				if draw(4) == 0 {
					w.Store(draw(w.Size()), words[draw(len(words))])
				}
				ahead := w.State()
				p := draw(c.Muts + 1)
				e := w.Pick(p)
				now := w.State()
				mustAccess(t, ahead.Words, now.Words, e.Access)
				mustStay(t, p, ahead, now)
			}
		}
	}
}

// P1, and all answers at all arguments, held against the layers' own steps.
func FuzzCalls(f *testing.F) {
	f.Add(2, 1, 1, 0, []byte{1, 0, 5, 0}, []byte{0, 0, 0, 0, 0})
	f.Add(3, 2, 1, 1, []byte{3, 0, 0, 0, 99, 1, 2, 3, 4, 0, 0, 0}, []byte{0, 1, 2, 0, 1, 2, 255, 128, 3, 4})
	f.Add(5, 3, 2, 0, []byte{8, 0, 0, 0, 9, 0, 0, 0, 200, 7}, []byte("abcdefgh"))
	f.Add(0, 1, 1, 0, []byte{}, []byte{})
	f.Add(math.MaxInt, math.MinInt, 64, 65, []byte{3}, []byte{0})
	f.Fuzz(func(t *testing.T, cells, muts, regs, globs int, ops, picks []byte) {
		if w, e := world.New(api.Config{Cells: cells, Muts: muts, Regs: regs, Globs: globs}); (w == nil) != (e != api.OK) {
			t.Fatalf("New of %d, %d, %d, %d = %v, %d", cells, muts, regs, globs, w, e)
		}
		c := api.Config{Cells: 2 + int(uint(cells)%6), Muts: 1 + int(uint(muts)%4), Regs: 1 + int(uint(regs)%4), Globs: int(uint(globs) % 3)}
		programs := make([][]api.Op, c.Muts)
		for k := 0; k+3 < len(ops); k += 4 {
			m := k / 4 % c.Muts
			programs[m] = append(programs[m], api.Op{Kind: int(int8(ops[k])), A: int(int8(ops[k+1])), B: int(int8(ops[k+2])), C: int(int8(ops[k+3]))})
		}
		var s seen
		w, d, j := sure(t, c, programs...), modelOf(t, c, programs...), judgeOf(t, c)
		for _, p := range picks {
			for range 1 + p>>4 {
				mustGoOn(t, w, d, j, &s, int(p&15)-2)
			}
		}
		mustDoNothing(t, w, notThere(c)...)
	})
}

// A run, by its notes.
func ExampleWorld_Run() {
	w, _ := world.New(pair, []api.Op{set}, []api.Op{cons})
	for _, n := range w.Run(slices.Repeat([]int{0, 1, 2}, 30)...) {
		fmt.Println(n.Proc, n.What, op.Text(n.Op), n.N)
	}
	// Output:
	// 0 1 set 0 5 0
	// 1 1 cons 0 0 0 0
	// 0 2 set 0 5 0
	// 0 3 set 0 5 1
	// 1 2 cons 0 0 0 0
	// 1 3 cons 0 0 0 1
	// 2 4  0
}
